package keep_test

import (
	"math/rand"
	"slices"
	"testing"

	"estreat/api"
	"estreat/keep"
)

// fewRecords are those of which all short rows are made.
func fewRecords() []api.Record {
	return []api.Record{
		epochRecord(1), epochRecord(2), epochRecord(3),
		itemRecord(user(1, 1, 1)), itemRecord(user(2, 1, 2)), itemRecord(opening(1, 3)), itemRecord(opening(2, 1)),
		adoptRecord(1, 0), adoptRecord(1, 1, user(1, 1, 5)), adoptRecord(2, 0, opening(2, 2)), adoptRecord(2, 1, opening(2, 3)),
		adoptRecord(3, 2), adoptRecord(3, 1, opening(3, 1)), adoptRecord(3, 0, user(1, 2, 1), opening(2, 2), opening(3, 2)),
		claimRecord(claim(2, 1)), claimRecord(changed(claim(2, 1), func(c *api.Claim) { c.Size++ })), claimRecord(claim(1, 4)),
	}
}

// All rows of four records, or fewer: each is held against the words by what came of those ahead of it.
func TestAllShortRowsOfRecords(t *testing.T) {
	l := fewRecords()
	var walk func(k api.Kept, left int)
	walk = func(k api.Kept, left int) {
		for _, r := range l {
			next := wantFolded(t, "a short row", k, r)
			if left > 1 && !sameKept(next, k) {
				walk(next, left-1)
			}
		}
	}
	walk(keep.New(), 4)
}

// maker makes up records that mostly may be, and are mostly folded into what is kept.
type maker struct{ *rand.Rand }

// near is a number about n, mostly itself.
func (m maker) near(n int) int {
	switch m.Intn(8) {
	case 0:
		return n - 1
	case 1:
		return n + 1
	case 2:
		return n + m.Intn(5)
	}
	return n
}

func (m maker) item(k api.Kept) api.Item {
	epoch := m.near(k.Log)
	switch m.Intn(5) {
	case 0:
		return anchor(epoch)
	case 1:
		return claimed(epoch, m.near(epoch), 1+m.Intn(3))
	}
	return text(epoch, 1+m.Intn(3), 1+m.Intn(4+4*len(k.Items)), "made up"[:m.Intn(8)])
}

func (m maker) record(k api.Kept) api.Record {
	switch m.Intn(8) {
	case 0:
		return epochRecord(m.near(k.Epoch))
	case 1:
		return claimRecord(claim(1+m.Intn(5), 1+m.Intn(9)))
	case 2:
		c := claim(1+m.Intn(5), 1+m.Intn(9))
		c.Node = 1 + m.Intn(3)
		return claimRecord(c)
	case 3:
		epoch := m.near(k.Epoch)
		l := []api.Item{opening(epoch, 1+m.Intn(3))}
		for range m.Intn(4) {
			l = append(l, text(epoch, 1+m.Intn(3), 1+m.Intn(100), "adopted"))
		}
		return adoptRecord(epoch, m.near(m.Intn(len(k.Items)+1)), l[m.Intn(8)/7:]...)
	case 4:
		wrong := strayRecords()
		return wrong[m.Intn(len(wrong))]
	}
	return itemRecord(m.item(k))
}

// Long rows of records: what is kept is right all along, and Epoch and Log never fall; and each record that may be is folded as it is read of its text.
func TestLongRowsOfRecords(t *testing.T) {
	for seed := range 40 {
		m := maker{rand.New(rand.NewSource(int64(seed)))}
		k := keep.New()
		folds := 0
		for range 150 {
			r := m.record(k)
			if recordMayBe(r) {
				wantLaid(t, r)
				s, _ := keep.PutRecord(r)
				r, _ = keep.GetRecord(s)
			}
			next := wantFolded(t, "a long row", k, r)
			if !sameKept(next, k) {
				folds++
			}
			k = next
		}
		if folds < 30 {
			t.Errorf("a long row of %d is of no use: only %d records change what is kept", seed, folds)
		}
	}
}

// A log of as many items as there may be is made one by one.
func TestALogGrowsToItsEnd(t *testing.T) {
	k := keep.New()
	l := plain(2001, 1, 1)
	for i, x := range l {
		next, e := keep.Fold(k, itemRecord(x))
		if want := i < 2000; (e == api.OK) != want || want && len(next.Items) != i+1 {
			t.Fatalf("P15.2: the item %d makes %d items, %d", i, len(next.Items), e)
		}
		if e == api.OK {
			k = next
		}
	}
	wantRightness(t, "a full log", k)
	if !slices.Equal(k.Items, l[:2000]) {
		t.Errorf("P15.2: a full log is not of the items that came")
	}
}

// From epoch to epoch: a promise, then the log that its leader opened, then items of it.
func TestEpochsFollowOneAnother(t *testing.T) {
	k := keep.New()
	for epoch := 2; epoch <= 40; epoch++ {
		node := 1 + epoch%3
		from := len(k.Items) - epoch%2
		from = max(from, 0)
		for _, r := range []api.Record{epochRecord(epoch), adoptRecord(epoch, from, opening(epoch, node)), itemRecord(user(epoch, 1, epoch)), claimRecord(claim(2, epoch))} {
			k = wantFolded(t, "a turn", k, r)
		}
		wantLeader(t, "behind a turn", k, node)
		if k.Epoch != epoch || k.Log != epoch {
			t.Errorf("P15.2: behind the turn of %d there is %s", epoch, brief(k))
		}
		wantFold(t, "the epoch ahead", k, adoptRecord(epoch-1, len(k.Items), opening(epoch, 1)), api.ErrKeepForm)
		wantFold(t, "a promise of the epoch ahead", k, epochRecord(epoch-1), api.ErrKeepForm)
	}
}

// What is laid is read, what is read is laid as the same text: over and over.
func TestTextsComeBack(t *testing.T) {
	for _, r := range slices.Concat(rightRecords(), plainRecords(), neighbours()) {
		s := wantLaid(t, r)
		for range 3 {
			got, e := keep.GetRecord(s)
			again, f := keep.PutRecord(got)
			if e != api.OK || f != api.OK || again != s {
				t.Fatalf("P15.4: %s comes back as %s, %d, %d", brief(r), brief(got), e, f)
			}
		}
	}
}
