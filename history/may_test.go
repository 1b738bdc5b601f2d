package history_test

import (
	"testing"

	"estreat/api"
	"estreat/history"
)

// wantMay holds May against the chapter's words, and what is let in against what follows.
func wantMay(t *testing.T, l []api.Item, x api.Item, want api.Errno) {
	t.Helper()
	if model := mayCome(l, x); model != want {
		t.Fatalf("May(%s, %s) is meant to be %d, but by the words is %d", brief(l), brief(x), want, model)
	}
	if e := history.May(l, x); e != want {
		t.Errorf("P11.2: May(%s, %s) is %d; want %d", brief(l), brief(x), e, want)
	}
	if want == api.OK {
		wantItCame(t, l, x)
	}
}

func wantItCame(t *testing.T, l []api.Item, x api.Item) {
	t.Helper()
	grown := behind(l, x)
	if e := history.Check(grown); e != api.OK {
		t.Errorf("P11.4: what may come, %s, makes a wrong log: %d", brief(x), e)
	}
	if x.Entry.Kind == 1 {
		if i, ok := history.Find(grown, x.Entry.Client, x.Entry.Seq); i != len(l) || !ok {
			t.Errorf("P11.4: what came behind %d items is found at %d, %v", len(l), i, ok)
		}
	}
	for _, n := range []int{0, len(l) / 2, len(l)} {
		was, e := history.Root(l, n)
		is, f := history.Root(grown, n)
		if was != is || e != api.OK || f != api.OK {
			t.Errorf("P11.4: behind one more the root of %d is %x, %d, and was %x, %d", n, is, f, was, e)
		}
	}
}

func TestMayOfTheChapter(t *testing.T) {
	l := []api.Item{user(1, 1, 3)}
	wantMay(t, l, user(1, 1, 3), api.ErrHistoryOld)
	wantMay(t, l, user(1, 1, 4), api.OK)
	wantMay(t, l, user(1, 2, 1), api.OK)
	for _, one := range []func(int) api.Item{func(epoch int) api.Item { return user(epoch, 1, epoch) }, anchor, claim} {
		for _, other := range []func(int) api.Item{func(epoch int) api.Item { return user(epoch, 2, epoch) }, anchor, claim} {
			wantMay(t, []api.Item{one(2)}, other(1), api.ErrHistoryEpoch)
		}
	}
}

func TestMayBehindNoItem(t *testing.T) {
	for _, l := range [][]api.Item{nil, {}} {
		for _, x := range edgeItems() {
			wantMay(t, l, x, api.OK)
		}
		for _, x := range wrongItems() {
			wantMay(t, l, x, api.ErrHistoryForm)
		}
	}
}

func TestMayAtTheLimit(t *testing.T) {
	l := made(1999)
	last := l[1998].Epoch
	full := behind(l, claim(last))
	for _, x := range []api.Item{user(last, 1, 5000), user(last+1, 2, 1000000), anchor(last), claim(last), claim(900000000)} {
		wantMay(t, l[:1998], x, api.OK)
		wantMay(t, l, x, api.OK)
		wantMay(t, full, x, api.ErrLimit)
		wantMay(t, behind(full, claim(last)), x, api.ErrHistoryForm)
	}
	// What is old is so behind 1999 items, too, and the limit is told ahead of it.
	wantMay(t, l, user(last, 1, 1), api.ErrHistoryOld)
	wantMay(t, full, user(last, 1, 1), api.ErrLimit)
	// The epoch is told ahead of the limit.
	for _, x := range []api.Item{user(last-1, 1, 5000), user(last-1, 1, 1), anchor(last - 1), claim(1)} {
		wantMay(t, l, x, api.ErrHistoryEpoch)
		wantMay(t, full, x, api.ErrHistoryEpoch)
	}
	// And what is wrong ahead of all.
	for _, x := range []api.Item{{}, {Epoch: last}, user(0, 1, 1), user(last-1, 4, 1), user(900000001, 1, 5000)} {
		wantMay(t, l, x, api.ErrHistoryForm)
		wantMay(t, full, x, api.ErrHistoryForm)
	}
}

func TestMayOfSeqs(t *testing.T) {
	for client := 1; client <= 3; client++ {
		other := 1 + client%3
		for _, seq := range []int{2, 3, 100, 255, 256, 65536, 999999} {
			for _, l := range [][]api.Item{
				{user(1, client, seq)},
				{user(1, client, seq), user(1, other, 1000000)},
				{user(1, other, 1000000), user(1, client, seq), user(1, other, 1)},
				{user(1, client, 1), user(1, other, 1000000), user(1, client, seq)},
				{user(1, client, seq), user(1, client, 1)},
				{user(1, client, 1), user(1, client, seq), user(1, client, seq-1), anchor(1), claim(1)},
				{user(1, client, seq), user(1, client, seq), user(1, client, seq)},
				{user(1, client, seq), anchor(1), claim(1), user(1, other, seq+1), user(1, client, 1)},
			} {
				wantMay(t, l, user(1, client, 1), api.ErrHistoryOld)
				wantMay(t, l, user(1, client, seq-1), api.ErrHistoryOld)
				wantMay(t, l, user(1, client, seq), api.ErrHistoryOld)
				wantMay(t, l, text(2, client, seq, "another text"), api.ErrHistoryOld)
				wantMay(t, l, user(1, client, seq+1), api.OK)
				wantMay(t, l, user(900000000, client, 1000000), api.OK)
				wantMay(t, l, anchor(1), api.OK)
				wantMay(t, l, claim(1), api.OK)
			}
		}
	}
}

// A client's entries may stand anywhere in a long log.
func TestMayFindsTheGreatestAtEachPlace(t *testing.T) {
	const n = 60
	for at := range n {
		l := made(n)
		l[at] = user(l[at].Epoch, 1, 500)
		epoch := l[n-1].Epoch
		wantMay(t, l, user(epoch, 1, 499), api.ErrHistoryOld)
		wantMay(t, l, user(epoch, 1, 500), api.ErrHistoryOld)
		wantMay(t, l, user(epoch, 1, 501), api.OK)
		wantMay(t, l, user(epoch, 2, 499), api.OK)
		wantMay(t, l, user(epoch, 3, 500), api.OK)
	}
}

// The Seqs in an anchor's and a claim's place are none of a client's.
func TestMayOfOtherKindsIsNeverOld(t *testing.T) {
	l := []api.Item{anchor(1), claim(1), anchor(1), claim(1)}
	wantMay(t, l, anchor(1), api.OK)
	wantMay(t, l, claim(1), api.OK)
	for client := 1; client <= 3; client++ {
		wantMay(t, l, user(1, client, 1), api.OK)
	}
}

func TestMayOfEpochs(t *testing.T) {
	for _, epoch := range []int{2, 3, 255, 256, 65536, 899999999} {
		for _, last := range []func(int) api.Item{func(epoch int) api.Item { return user(epoch, 1, 7) }, anchor, claim} {
			l := []api.Item{user(1, 2, 1), last(epoch)}
			for _, x := range []func(int) api.Item{func(epoch int) api.Item { return user(epoch, 1, 8) }, anchor, claim} {
				wantMay(t, l, x(1), api.ErrHistoryEpoch)
				wantMay(t, l, x(epoch-1), api.ErrHistoryEpoch)
				wantMay(t, l, x(epoch), api.OK)
				wantMay(t, l, x(epoch+1), api.OK)
				wantMay(t, l, x(900000000), api.OK)
				wantMay(t, l, x(900000001), api.ErrHistoryForm)
				wantMay(t, l, x(0), api.ErrHistoryForm)
				wantMay(t, l, x(-1), api.ErrHistoryForm)
			}
			// What is old and of an epoch that is over, too: the epoch is told.
			wantMay(t, l, user(epoch-1, 2, 1), api.ErrHistoryEpoch)
			wantMay(t, l, user(epoch, 2, 1), api.ErrHistoryOld)
		}
	}
	l := []api.Item{claim(900000000)}
	wantMay(t, l, user(900000000, 1, 1), api.OK)
	wantMay(t, l, user(899999999, 1, 1), api.ErrHistoryEpoch)
}

func TestMayRefusesWhatIsWrong(t *testing.T) {
	for _, l := range wrongLogs() {
		for _, x := range append(edgeItems(), user(900000000, 1, 1000000), api.Item{}, user(1, 4, 4)) {
			wantMay(t, l, x, api.ErrHistoryForm)
		}
	}
	for _, x := range wrongItems() {
		for _, l := range [][]api.Item{{user(1, 1, 1)}, {user(2, 1, 1)}, made(9)} {
			wantMay(t, l, x, api.ErrHistoryForm)
			wantMay(t, []api.Item{x}, user(900000000, 1, 1000000), api.ErrHistoryForm)
		}
	}
}

// All logs of up to four of these, and each of these behind them.
func TestMayOfAllSmallLogs(t *testing.T) {
	items := []api.Item{user(1, 1, 1), user(1, 1, 2), user(1, 2, 1), user(2, 1, 2), user(2, 1, 3), user(2, 2, 2), anchor(1), claim(2), user(1, 4, 1)}
	let := 0
	var grow func(l []api.Item)
	grow = func(l []api.Item) {
		wantCheck(t, "a small log", l)
		for _, x := range items {
			want := mayCome(l, x)
			if e := history.May(l, x); e != want {
				t.Fatalf("P11.2: May(%s, %s) is %d; want %d", brief(l), brief(x), e, want)
			}
			if want == api.OK {
				let++
				if e := history.Check(behind(l, x)); e != api.OK {
					t.Fatalf("P11.4: what may come behind %s, %s, makes a wrong log: %d", brief(l), brief(x), e)
				}
			}
		}
		if len(l) == 4 {
			return
		}
		for _, x := range items {
			grow(behind(l, x))
		}
	}
	grow(nil)
	if let < 500 {
		t.Fatalf("only %d were let in: the test tries too little", let)
	}
}

// A log that is made of what May lets in, up to its end.
func TestWhatMayComeMakesALog(t *testing.T) {
	t.Parallel()
	var l []api.Item
	var roots []api.Digest
	refused := 0
	for i := 0; len(l) < 2000; i++ {
		x := []api.Item{user(1+i/50, 1+i%3, 1+i*7%2999), anchor(1 + i/70), claim(1 + i/60), text(1+i/60, 1, 1+i, "t")}[i%4]
		want := mayCome(l, x)
		if e := history.May(l, x); e != want {
			t.Fatalf("P11.2: May behind %d items of %s is %d; want %d", len(l), brief(x), e, want)
		}
		if want != api.OK {
			refused++
			continue
		}
		l = append(l, x)
		if i, ok := history.Find(l, x.Entry.Client, x.Entry.Seq); x.Entry.Kind == 1 && (i != len(l)-1 || !ok) {
			t.Fatalf("P11.4: what came at %d is found at %d, %v", len(l)-1, i, ok)
		}
		if len(l)%100 == 0 {
			root, _ := history.Root(l, len(l))
			roots = append(roots, root)
		}
	}
	if refused == 0 {
		t.Fatal("nothing was refused: the test tries too little")
	}
	if e := history.Check(l); e != api.OK {
		t.Errorf("P11.4: the log is wrong: %d", e)
	}
	for i, was := range roots {
		if is, e := history.Root(l, 100*(i+1)); is != was || e != api.OK {
			t.Errorf("P11.4: the root of the first %d is another one at the end: %d", 100*(i+1), e)
		}
	}
	wantMay(t, l, user(900000000, 1, 1000000), api.ErrLimit)
}
