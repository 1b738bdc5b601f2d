package keep_test

import (
	"slices"
	"testing"

	"estreat/api"
	"estreat/keep"
)

// wantFold holds Fold against an error that is told, and that and what comes of it against the words.
func wantFold(t *testing.T, name string, k api.Kept, r api.Record, want api.Errno) {
	t.Helper()
	if _, model := folded(k, r); model != want {
		t.Fatalf("Fold of %s is meant to be %d, but by the words is %d: %s; %s", name, want, model, brief(k), brief(r))
	}
	wantFolded(t, name, k, r)
}

// wantFolded holds Fold against the words, and against what follows of what is right.
func wantFolded(t *testing.T, name string, k api.Kept, r api.Record) api.Kept {
	t.Helper()
	want, err := folded(k, r)
	got, e := keep.Fold(k, r)
	if e != err || !sameKept(got, want) {
		t.Errorf("P15.2: Fold of %s is %s, %d; want %s, %d; of %s; %s", name, brief(got), e, brief(want), err, brief(k), brief(r))
	}
	if e != api.OK {
		if !keptIsZero(got) {
			t.Errorf("R1: Fold of %s is %d, and %s", name, e, brief(got))
		}
		return k
	}
	if keep.Check(got) != api.OK || keep.Leader(got) == 0 {
		t.Errorf("P15.4: what comes of %s is not right: %s; of %s; %s", name, brief(got), brief(k), brief(r))
	}
	if got.Epoch < k.Epoch || got.Log < k.Log {
		t.Errorf("P15.4: by %s Epoch or Log falls: %s; of %s", name, brief(got), brief(k))
	}
	return got
}

func TestFoldOfTheChapter(t *testing.T) {
	k := wantFolded(t, "an item", keep.New(), itemRecord(user(1, 1, 1)))
	k = wantFolded(t, "a promise", k, epochRecord(3))
	if !sameKept(k, api.Kept{Epoch: 3, Log: 1, Items: []api.Item{user(1, 1, 1)}}) || keep.Leader(k) != 1 {
		t.Errorf("P15.2: an item and a promise make %s", brief(k))
	}
	wantFold(t, "a promise below", k, epochRecord(2), api.ErrKeepForm)
	wantFold(t, "an item of the promise", k, itemRecord(user(3, 1, 2)), api.ErrKeepForm)
	next := wantFolded(t, "an adoption", k, adoptRecord(3, 1, opening(3, 2)))
	if !sameKept(next, api.Kept{Epoch: 3, Log: 3, Items: []api.Item{user(1, 1, 1), opening(3, 2)}}) || keep.Leader(next) != 2 {
		t.Errorf("P15.2: an adoption makes %s", brief(next))
	}
	wantFold(t, "an adoption that leaves no leader", k, adoptRecord(4, 0), api.ErrKeepForm)
}

func TestFoldOfPromises(t *testing.T) {
	for _, epoch := range []int{1, 2, 3, 9, 255, 256, 899999999, 900000000} {
		for _, k := range []api.Kept{{Epoch: epoch, Log: 1}, {Epoch: epoch, Log: 1, Items: plain(7, 1, 1), Claims: someClaims(5)}, {Epoch: epoch, Log: epoch, Items: []api.Item{opening(epoch, 3)}}} {
			for _, n := range []int{1, epoch - 1, epoch, epoch + 1, epoch + 100, 899999999, 900000000} {
				want := api.OK
				if n < epoch || n > 900000000 {
					want = api.ErrKeepForm
				}
				wantFold(t, "a promise", k, epochRecord(n), want)
			}
			got, _ := keep.Fold(k, epochRecord(900000000))
			if got.Log != k.Log || !slices.Equal(got.Items, k.Items) || !slices.Equal(got.Claims, k.Claims) {
				t.Errorf("P15.2: a promise changes more than Epoch: %s", brief(got))
			}
		}
	}
	// Below what was promised, and above the log that is there, is still below.
	for n := 1; n <= 9; n++ {
		want := api.ErrKeepForm
		if n == 9 {
			want = api.OK
		}
		wantFold(t, "a promise between Log and Epoch", kept(20), epochRecord(n), want)
	}
}

// An item is of the log's epoch, neither of one ahead nor of the promised one.
func TestFoldOfItemsByTheirEpoch(t *testing.T) {
	k := kept(20)
	for epoch := 1; epoch <= 12; epoch++ {
		want := api.ErrKeepForm
		if epoch == k.Log {
			want = api.OK
		}
		for _, x := range []api.Item{user(epoch, 1, 900000), anchor(epoch), opening(epoch, 3), claimed(epoch, 9, 1), claimed(epoch, 5, 1)} {
			wantFold(t, "an item by its Epoch", k, itemRecord(x), want)
		}
	}
	// Of a log whose items are all of lower epochs than Log is, an item of these may come behind by chapter 11, and yet not here.
	k = api.Kept{Epoch: 9, Log: 1, Items: nil}
	wantFold(t, "an item behind none", k, itemRecord(user(1, 1, 1)), api.OK)
	wantFold(t, "an item of epoch 2 behind none", k, itemRecord(user(2, 1, 1)), api.ErrKeepForm)
	wantFold(t, "an item of the promised epoch behind none", k, itemRecord(user(9, 1, 1)), api.ErrKeepForm)
	k = api.Kept{Epoch: 900000000, Log: 900000000, Items: []api.Item{opening(900000000, 1)}}
	wantFold(t, "an item of the last epoch", k, itemRecord(user(900000000, 1, 1)), api.OK)
	wantFold(t, "an item of the epoch ahead", k, itemRecord(user(899999999, 1, 1)), api.ErrKeepForm)
}

// An item of the log's epoch may yet not come behind it.
func TestFoldOfItemsThatMayNotComeBehind(t *testing.T) {
	k := api.Kept{Epoch: 9, Log: 5, Items: []api.Item{user(1, 1, 7), user(1, 2, 1000000), opening(5, 2), user(5, 1, 9), anchor(5), user(5, 3, 1)}}
	for _, x := range []struct {
		client, seq int
		want        api.Errno
	}{
		{1, 1, api.ErrKeepForm}, {1, 7, api.ErrKeepForm}, {1, 8, api.ErrKeepForm}, {1, 9, api.ErrKeepForm}, {1, 10, api.OK}, {1, 1000000, api.OK},
		{2, 1, api.ErrKeepForm}, {2, 1000000, api.ErrKeepForm},
		{3, 1, api.ErrKeepForm}, {3, 2, api.OK},
	} {
		wantFold(t, "a user's item", k, itemRecord(user(5, x.client, x.seq)), x.want)
		wantFold(t, "a user's item with a text", k, itemRecord(text(5, x.client, x.seq, "a")), x.want)
	}
	for _, x := range k.Items[2:] {
		want := api.OK
		if x.Entry.Kind == 1 {
			want = api.ErrKeepForm
		}
		wantFold(t, "an item that is there", k, itemRecord(x), want)
	}
}

func TestFoldOfItemsAtTheLimit(t *testing.T) {
	for _, x := range []api.Item{user(5, 1, 900000), anchor(5), opening(5, 1)} {
		wantFold(t, "behind 1998 items", kept(1998), itemRecord(x), api.OK)
		wantFold(t, "behind 1999 items", kept(1999), itemRecord(x), api.OK)
		wantFold(t, "behind 2000 items", kept(2000), itemRecord(x), api.ErrKeepForm)
	}
}

func TestFoldOfItemsChangesNoMore(t *testing.T) {
	for _, n := range []int{1, 2, 20} {
		k := kept(n)
		for _, x := range []api.Item{user(5, 1, 900000), anchor(5), opening(5, 3), claimed(5, 9, 3)} {
			got, e := keep.Fold(k, itemRecord(x))
			want := api.Kept{Epoch: 9, Log: 5, Items: behind(k.Items, x), Claims: k.Claims}
			if e != api.OK || !sameKept(got, want) || keep.Leader(got) != 2 {
				t.Errorf("P15.2: an item makes %s, %d", brief(got), e)
			}
		}
	}
}

func TestFoldOfAdoptionsByTheirEpoch(t *testing.T) {
	k := kept(20)
	for epoch := 1; epoch <= 12; epoch++ {
		want := api.OK
		if epoch < 9 {
			want = api.ErrKeepForm
		}
		for from := range 7 {
			wantFold(t, "an adoption by its Epoch", k, adoptRecord(epoch, from, opening(epoch, 3)), want)
		}
	}
	wantFold(t, "an adoption of the last epoch", k, adoptRecord(900000000, 20, opening(900000000, 3)), api.OK)
	// An adoption of the epoch whose log is there already takes its place.
	k = api.Kept{Epoch: 5, Log: 5, Items: opened(20, 5), Claims: someClaims(3)}
	got := wantFolded(t, "the same epoch", k, adoptRecord(5, 6, opening(5, 3), user(5, 1, 77)))
	if !sameKept(got, api.Kept{Epoch: 5, Log: 5, Items: behind(k.Items[:6], opening(5, 3), user(5, 1, 77)), Claims: k.Claims}) || keep.Leader(got) != 3 {
		t.Errorf("P15.2: an adoption of the same epoch makes %s", brief(got))
	}
	wantFold(t, "the same epoch, all of it", k, adoptRecord(5, 20), api.OK)
	wantFold(t, "the same epoch, without what opened it", k, adoptRecord(5, 6), api.ErrKeepForm)
	wantFold(t, "the same epoch, with what opened it", k, adoptRecord(5, 7), api.OK)
	// Epoch 1 needs none.
	for _, k := range []api.Kept{{Epoch: 1, Log: 1}, first(20)} {
		for from := range len(k.Items) + 1 {
			wantFold(t, "epoch 1", k, adoptRecord(1, from), api.OK)
			wantFold(t, "epoch 1, and an item", k, adoptRecord(1, from, user(1, 2, 3)), api.OK)
		}
		wantFold(t, "epoch 1, one more", k, adoptRecord(1, len(k.Items)+1), api.ErrKeepGap)
	}
	wantFold(t, "epoch 1, where 2 is promised", api.Kept{Epoch: 2, Log: 1}, adoptRecord(1, 0), api.ErrKeepForm)
}

func TestFoldOfAdoptionsFromEachPlace(t *testing.T) {
	for _, n := range []int{0, 1, 2, 7, 20, 1998, 1999, 2000} {
		k := first(n)
		for _, from := range []int{0, 1, 2, n / 2, n - 1, n, n + 1, n + 2, 1999, 2000, 2001, 2002, -1, -2000, 1 << 32} {
			want := api.OK
			switch {
			case from < 0 || from > 2000:
				want = api.ErrKeepForm
			case from > n:
				want = api.ErrKeepGap
			case from == 2000:
				// There is no room for the claim.
				want = api.ErrKeepForm
			}
			r := adoptRecord(2, from, opening(2, 3))
			wantFold(t, "an adoption from a place", k, r, want)
			if got, _ := keep.Fold(k, r); want == api.OK && !sameKept(got, api.Kept{Epoch: 2, Log: 2, Items: behind(k.Items[:from], opening(2, 3)), Claims: k.Claims}) {
				t.Errorf("P15.2: an adoption from %d of %d makes %s", from, n, brief(got))
			}
		}
	}
	wantFold(t, "all of 2000 items", kept(2000), adoptRecord(9, 2000), api.ErrKeepForm)
	full := changed(kept(2000), func(k *api.Kept) { k.Epoch = 5 })
	wantFold(t, "all of 2000 items, of their epoch", full, adoptRecord(5, 2000), api.OK)
	wantFold(t, "1999 of 2000 items, and one", full, adoptRecord(5, 1999, user(5, 1, 1)), api.OK)
}

func TestFoldOfAdoptionsAtTheLimit(t *testing.T) {
	k := first(20)
	for from := range 21 {
		l := behind([]api.Item{opening(2, 3)}, plain(2000-from, 2, 1)...)
		wantFold(t, "2000 items in all", k, adoptRecord(2, from, l[:2000-from]...), api.OK)
		if from > 0 {
			wantFold(t, "2001 items in all", k, adoptRecord(2, from, l[:2001-from]...), api.ErrKeepForm)
		}
	}
	wantFold(t, "4000 items in all", kept(2000), adoptRecord(9, 2000, opened(2000, 9)...), api.ErrKeepForm)
	wantFold(t, "2000 others", kept(2000), adoptRecord(9, 0, opened(2000, 9)...), api.OK)
}

// What is adopted is right by itself, and yet does not make what is right.
func TestFoldOfAdoptionsThatMakeNothingRight(t *testing.T) {
	k := api.Kept{Epoch: 9, Log: 5, Items: []api.Item{user(1, 1, 1), user(4, 1, 2), opening(5, 2), user(5, 1, 3)}}
	for _, x := range []struct {
		name  string
		epoch int
		from  int
		items []api.Item
		want  api.Errno
	}{
		{"none of none", 9, 0, nil, api.ErrKeepForm},
		{"none of all", 9, 4, nil, api.ErrKeepForm},
		{"no claim", 9, 4, []api.Item{user(9, 1, 4)}, api.ErrKeepForm},
		{"a claim of another epoch", 9, 4, []api.Item{claimed(9, 8, 3)}, api.ErrKeepForm},
		{"a claim in an item of another epoch", 9, 4, []api.Item{claimed(8, 9, 3)}, api.ErrKeepForm},
		{"the log of another epoch", 9, 4, []api.Item{opening(8, 3)}, api.ErrKeepForm},
		{"a claim", 9, 4, []api.Item{opening(9, 3)}, api.OK},
		{"a claim behind others", 9, 2, []api.Item{user(6, 3, 1), claimed(8, 9, 1), opening(9, 3), opening(9, 2)}, api.OK},
		{"an Epoch that falls", 9, 4, []api.Item{user(4, 2, 1), opening(9, 3)}, api.ErrKeepForm},
		{"the same, from where it does not", 9, 2, []api.Item{user(4, 2, 1), opening(9, 3)}, api.OK},
		{"an item above", 9, 4, []api.Item{opening(9, 3), user(10, 2, 1)}, api.ErrKeepForm},
		{"only items above", 9, 0, []api.Item{opening(10, 3)}, api.ErrKeepForm},
		{"the same, of their epoch", 10, 0, []api.Item{opening(10, 3)}, api.OK},
		{"what lies there already leads to nobody", 10, 4, []api.Item{opening(9, 3)}, api.ErrKeepForm},
	} {
		wantFold(t, x.name, k, adoptRecord(x.epoch, x.from, x.items...), x.want)
	}
	// A user's Seq that is there is none of these: it is right in a log, though it may not come behind one.
	wantFold(t, "an old Seq", k, adoptRecord(9, 4, opening(9, 3), user(9, 1, 1), user(9, 1, 1)), api.OK)
}

func TestFoldOfClaims(t *testing.T) {
	k := kept(7)
	for _, c := range k.Claims {
		wantFold(t, "a claim that is there", k, claimRecord(c), api.OK)
		if got, _ := keep.Fold(k, claimRecord(c)); !sameKept(got, k) {
			t.Errorf("P15.2: a claim that is there makes %s", brief(got))
		}
		for _, change := range []func(*api.Claim){
			func(c *api.Claim) { c.Node = 1 + c.Node%3 },
			func(c *api.Claim) { c.Size++ },
			func(c *api.Claim) { c.Root[0] ^= 1 },
			func(c *api.Claim) { c.Root[31] ^= 128 },
		} {
			wantFold(t, "another one of its place", k, claimRecord(changed(c, change)), api.ErrKeepForm)
		}
		for _, n := range []int{c.Epoch - 1, c.Epoch + 1, 900000000} {
			wantFold(t, "one of another epoch", k, claimRecord(changed(c, func(c *api.Claim) { c.Epoch = n })), api.OK)
		}
	}
	for region := 1; region <= 5; region++ {
		for epoch := 1; epoch <= 25; epoch++ {
			c := api.Claim{Region: region, Epoch: epoch, Node: 2}
			wantFolded(t, "a claim at its place", k, claimRecord(c))
			wantFold(t, "a claim behind none", keep.New(), claimRecord(c), api.OK)
		}
	}
	// A claim of an epoch plays no part in Epoch and Log.
	got, e := keep.Fold(k, claimRecord(claim(5, 900000000)))
	if want := (api.Kept{Epoch: 9, Log: 5, Items: k.Items, Claims: slices.Concat(k.Claims, []api.Claim{claim(5, 900000000)})}); e != api.OK || !sameKept(got, want) {
		t.Errorf("P15.2: a claim makes %s, %d", brief(got), e)
	}
}

// Each record behind each of what is right.
func TestFoldOfAllRightRecords(t *testing.T) {
	for name, k := range rightKepts() {
		for _, r := range slices.Concat(rightRecords(), plainRecords()) {
			wantFolded(t, name, k, r)
		}
	}
}

func TestFoldRefusesWhatMayNotBe(t *testing.T) {
	l := wrongRecords()
	for _, name := range []string{"new", "the last Epoch, Log 1", "Log below Epoch", "Log 1", "edge items", "2000 items"} {
		k := rightKepts()[name]
		for _, r := range l {
			if len(k.Items) < 1000 || len(r.Items) < 1000 {
				wantFold(t, name, k, r, api.ErrKeepForm)
			}
		}
	}
}

func TestFoldRefusesWhatIsNotRight(t *testing.T) {
	records := slices.Concat(plainRecords(), strayRecords()[:20], []api.Record{{}, epochRecord(900000000), epochRecord(0), itemRecord(api.Item{}), adoptRecord(900000000, 0, opening(900000000, 1)), adoptRecord(9, 2001), adoptRecord(9, 2000), adoptRecord(1, 0), claimRecord(api.Claim{}), {Kind: 5}})
	for name, k := range wrongKepts() {
		for _, r := range records {
			wantFold(t, name, k, r, api.ErrArg)
		}
	}
}

// Where several errors apply, the answer is the one that comes first in the chapter.
func TestFoldTellsTheFirstError(t *testing.T) {
	right, wrong := kept(20), api.Kept{Epoch: 9, Log: 5, Items: plain(20, 5, 1)}
	for _, x := range []struct {
		name string
		k    api.Kept
		r    api.Record
		want api.Errno
	}{
		{"what is not right, a record that may not be", wrong, adoptRecord(8, 2001, api.Item{}), api.ErrArg},
		{"what is not right, an Epoch below", wrong, adoptRecord(8, 0), api.ErrArg},
		{"what is not right, a gap", wrong, adoptRecord(9, 21, opening(9, 1)), api.ErrArg},
		{"what is not right, what would be", wrong, adoptRecord(9, 0, opening(9, 1)), api.ErrArg},
		{"what may not be, and a gap", right, adoptRecord(9, 2001, opening(9, 1)), api.ErrKeepForm},
		{"wrong items, and a gap", right, adoptRecord(9, 21, opening(9, 1), user(8, 1, 1)), api.ErrKeepForm},
		{"a stray Claim, and a gap", right, changed(adoptRecord(9, 21, opening(9, 1)), func(r *api.Record) { r.Claim.Size = 1 }), api.ErrKeepForm},
		{"an Epoch below, and a gap", right, adoptRecord(8, 21, opening(8, 1)), api.ErrKeepForm},
		{"an Epoch below, a gap, and no leader", right, adoptRecord(8, 2000), api.ErrKeepForm},
		{"a gap, and no leader", right, adoptRecord(9, 21), api.ErrKeepGap},
		{"a gap, and an item above", right, adoptRecord(9, 21, opening(10, 1)), api.ErrKeepGap},
		{"a gap, and 2001 items in all", right, adoptRecord(9, 21, opened(1980, 9)...), api.ErrKeepGap},
		{"a gap at the limit", right, adoptRecord(9, 2000, opening(9, 1)), api.ErrKeepGap},
		{"a gap behind 1999 items", kept(1999), adoptRecord(9, 2000, opening(9, 1)), api.ErrKeepGap},
		{"no gap, but no leader", right, adoptRecord(9, 20), api.ErrKeepForm},
		{"none of it", right, adoptRecord(9, 20, opening(9, 1)), api.OK},
	} {
		wantFold(t, x.name, x.k, x.r, x.want)
	}
}
