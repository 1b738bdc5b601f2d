package history_test

import (
	"math"
	"slices"
	"testing"

	"estreat/api"
	"estreat/history"
)

func wantCheck(t *testing.T, what string, l []api.Item) {
	t.Helper()
	want := api.ErrHistoryForm
	if logIsRight(l) {
		want = api.OK
	}
	if e := history.Check(l); e != want {
		t.Errorf("P11.1: Check of %s, %s, is %d; want %d", what, brief(l), e, want)
	}
}

func wantFind(t *testing.T, l []api.Item, client, seq int) {
	t.Helper()
	place, there := found(l, client, seq)
	if i, ok := history.Find(l, client, seq); i != place || ok != there {
		t.Errorf("P11.1: Find(%s, %d, %d) is %d, %v; want %d, %v", brief(l), client, seq, i, ok, place, there)
	}
}

func TestCheckOfLengths(t *testing.T) {
	for _, x := range []struct {
		n    int
		want api.Errno
	}{{0, api.OK}, {1, api.OK}, {2, api.OK}, {1999, api.OK}, {2000, api.OK}, {2001, api.ErrHistoryForm}, {2002, api.ErrHistoryForm}, {4000, api.ErrHistoryForm}, {4096, api.ErrHistoryForm}} {
		for _, l := range [][]api.Item{made(x.n), users(x.n)} {
			if e := history.Check(l); e != x.want {
				t.Errorf("P11.1: Check of %d items is %d; want %d", x.n, e, x.want)
			}
		}
	}
	if e := history.Check(nil); e != api.OK {
		t.Errorf("P11.1: Check of no log is %d", e)
	}
}

func TestCheckOfRightItems(t *testing.T) {
	for _, x := range edgeItems() {
		if e := history.Check([]api.Item{x}); e != api.OK {
			t.Errorf("P11.1: Check of %s alone is %d", brief(x), e)
		}
		for _, l := range [][]api.Item{{x, x}, {user(1, 1, 1), x}, {x, user(900000000, 1, 1)}} {
			if e := history.Check(l); e != api.OK {
				t.Errorf("P11.1: Check of %s is %d", brief(l), e)
			}
		}
	}
}

func TestCheckRefusesWrongItemsAtEachPlace(t *testing.T) {
	for _, x := range wrongItems() {
		if itemIsRight(x) {
			t.Fatalf("%s is meant to be wrong", brief(x))
		}
		for n := 1; n <= 4; n++ {
			for at := range n {
				l := with([]api.Item{user(1, 1, 1), anchor(1), claim(1), user(1, 2, 2)}[:n], at, x)
				if e := history.Check(l); e != api.ErrHistoryForm {
					t.Errorf("P11.1: Check of %d items with %s at %d is %d", n, brief(x), at, e)
				}
			}
		}
	}
	for _, at := range []int{0, 1, 999, 1998, 1999} {
		l := made(2000)
		wantCheck(t, "a wrong item in a full log", with(l, at, api.Item{Epoch: l[at].Epoch}))
	}
}

// A right item that is wrong at its place alone, as the Epoch falls to it, or behind it.
func TestCheckOfEpochs(t *testing.T) {
	for _, x := range []struct {
		epochs []int
		want   api.Errno
	}{
		{[]int{1, 1}, api.OK}, {[]int{1, 2}, api.OK}, {[]int{2, 1}, api.ErrHistoryForm}, {[]int{5, 5, 5}, api.OK}, {[]int{1, 900000000}, api.OK},
		{[]int{900000000, 900000000}, api.OK}, {[]int{900000000, 899999999}, api.ErrHistoryForm}, {[]int{900000000, 1}, api.ErrHistoryForm},
		{[]int{1, 3, 2}, api.ErrHistoryForm}, {[]int{2, 1, 2}, api.ErrHistoryForm}, {[]int{1, 2, 1, 3}, api.ErrHistoryForm}, {[]int{3, 1, 1, 1}, api.ErrHistoryForm},
		{[]int{1, 1, 2, 2, 7, 7, 100}, api.OK}, {[]int{1, 1, 2, 2, 7, 6, 100}, api.ErrHistoryForm}, {[]int{0, 1}, api.ErrHistoryForm}, {[]int{-1, 1}, api.ErrHistoryForm},
		{[]int{1, 900000001}, api.ErrHistoryForm}, {[]int{1, math.MaxInt}, api.ErrHistoryForm}, {[]int{math.MinInt, 1}, api.ErrHistoryForm},
	} {
		for _, one := range []func(int) api.Item{func(epoch int) api.Item { return user(epoch, 1, 1) }, anchor, claim} {
			var l []api.Item
			for _, epoch := range x.epochs {
				l = append(l, one(epoch))
			}
			if e := history.Check(l); e != x.want {
				t.Errorf("P11.1: Check of items of the epochs %v is %d; want %d", x.epochs, e, x.want)
			}
		}
	}
}

func TestCheckOfOneFallingEpochInAFullLog(t *testing.T) {
	for _, at := range []int{1, 2, 1000, 1998, 1999} {
		l := users(2000)
		for i := range l {
			l[i].Epoch = 10
		}
		l[at].Epoch = 9
		wantCheck(t, "an Epoch that falls", l)
		l[at].Epoch = 11
		wantCheck(t, "an Epoch that rises", l)
		for i := at; i < len(l); i++ {
			l[i].Epoch = 11
		}
		wantCheck(t, "Epochs that rise once", l)
	}
}

// What a log's clients laid is no matter of its being right: their Seqs may fall, and stand there twice.
func TestCheckDoesNotAskForSeqs(t *testing.T) {
	l := []api.Item{user(1, 1, 5), user(1, 1, 5), user(1, 1, 4), user(1, 2, 4), user(1, 1, 1000000), user(1, 1, 1)}
	if e := history.Check(l); e != api.OK {
		t.Errorf("P11.1: Check of Seqs that fall is %d", e)
	}
}

func TestFindOfTheChapter(t *testing.T) {
	l := []api.Item{user(1, 1, 1), user(1, 2, 5), user(1, 1, 3)}
	if i, ok := history.Find(l, 1, 3); i != 2 || !ok {
		t.Errorf("P11.1: Find of 1, 3 is %d, %v", i, ok)
	}
	if i, ok := history.Find(l, 1, 2); i != 0 || ok {
		t.Errorf("P11.1: Find of 1, 2 is %d, %v", i, ok)
	}
}

func TestFindAtEachPlace(t *testing.T) {
	for _, l := range [][]api.Item{nil, {}, users(1), users(2), users(2000), made(1), made(5), made(100), made(2000)} {
		for i, x := range l {
			if x.Entry.Kind != 1 {
				continue
			}
			if got, ok := history.Find(l, x.Entry.Client, x.Entry.Seq); got != i || !ok {
				t.Errorf("P11.1: Find of client %d, Seq %d in %d items is %d, %v; want %d", x.Entry.Client, x.Entry.Seq, len(l), got, ok, i)
			}
		}
		for client := -1; client <= 5; client++ {
			for _, seq := range []int{-1, 0, 1, 2, 3, 4, 5, 6, 1998, 1999, 2000, 2001, 1000000} {
				wantFind(t, l, client, seq)
			}
		}
	}
}

func TestFindTellsTheFirst(t *testing.T) {
	x, y := text(1, 2, 7, "one"), text(1, 2, 7, "other")
	for n := range 6 {
		for a := range n + 1 {
			for b := a; b < n+1; b++ {
				l := slices.Insert(slices.Insert(made(n), b, y), a, x)
				if i, ok := history.Find(l, 2, 7); i != a || !ok {
					t.Errorf("P11.1: Find of an entry at %d and %d of %d is %d, %v", a, b+1, len(l), i, ok)
				}
			}
		}
	}
}

// A Client and a Seq must stand in one entry, which is a user's.
func TestFindTakesNoOtherItems(t *testing.T) {
	stray := func(x api.Item) api.Item {
		x.Entry.Client, x.Entry.Seq = 1, 7
		return x
	}
	for _, l := range [][]api.Item{
		{stray(anchor(1))}, {stray(claim(1))}, {stray(api.Item{Epoch: 1})}, {stray(changed(user(1, 1, 7), func(x *api.Item) { x.Entry.Kind = 4 }))},
		{user(1, 1, 6), user(1, 2, 7), stray(anchor(1)), stray(claim(1))}, {user(1, 7, 1), user(7, 1, 1)},
	} {
		if i, ok := history.Find(l, 1, 7); i != 0 || ok {
			t.Errorf("P11.1: Find in %s is %d, %v", brief(l), i, ok)
		}
		l = behind(l, user(1, 1, 7))
		if i, ok := history.Find(l, 1, 7); i != len(l)-1 || !ok {
			t.Errorf("P11.1: Find in %s is %d, %v", brief(l), i, ok)
		}
	}
	for _, l := range [][]api.Item{{anchor(1), claim(1), {}}, made(50)} {
		if i, ok := history.Find(l, 0, 0); i != 0 || ok {
			t.Errorf("P11.1: Find of 0, 0 in %s is %d, %v", brief(l), i, ok)
		}
	}
	// The numbers that an anchor and a claim have are no client's.
	for _, l := range [][]api.Item{{anchor(1)}, {claim(1)}} {
		for client := range 5 {
			for _, seq := range []int{0, 1, 2, 3, 4, 258, 259, 70003, 70004, 16909060} {
				wantFind(t, l, client, seq)
			}
		}
	}
}

// Find asks of no log whether it is right.
func TestFindInWrongLogs(t *testing.T) {
	for _, l := range wrongLogs() {
		for _, x := range l {
			wantFind(t, l, x.Entry.Client, x.Entry.Seq)
		}
	}
	for _, n := range append(farOff, 0, 4, 1000001) {
		l := []api.Item{user(3, 1, 1), user(1, n, 1), user(1, 1, n), user(1, n, n), user(1, n, n)}
		for i, x := range l[:4] {
			if got, ok := history.Find(l, x.Entry.Client, x.Entry.Seq); got != i || !ok {
				t.Errorf("P11.1, R4: Find of client %d, Seq %d is %d, %v; want %d", x.Entry.Client, x.Entry.Seq, got, ok, i)
			}
		}
	}
}
