package front_test

import (
	"crypto/sha256"
	"slices"
	"testing"

	"estreat/api"
	"estreat/front"
)

func TestAddToFew(t *testing.T) {
	l := leaves(8)
	ab, cd, ef, gh := knot(l[0], l[1]), knot(l[2], l[3]), knot(l[4], l[5]), knot(l[6], l[7])
	abcd := knot(ab, cd)
	var f front.Front
	for i, want := range [][]api.Digest{
		{l[0]},
		{ab},
		{ab, l[2]},
		{abcd},
		{abcd, l[4]},
		{abcd, ef},
		{abcd, ef, l[6]},
		{knot(abcd, knot(ef, gh))},
	} {
		var e api.Errno
		f, e = front.Add(f, l[i])
		wantFront(t, "P4.2", "Add", f, e, i+1, want)
	}
}

// The peaks are made up here, of no list: what gives way hangs on the size alone.
func TestAddLetsPeaksGiveWay(t *testing.T) {
	leaf := api.Digest(sha256.Sum256([]byte("new")))
	for _, x := range []struct{ size, ways int }{
		{0, 0}, {2, 0}, {4, 0}, {6, 0}, {10, 0}, {65534, 0}, {65536, 0}, {99998, 0},
		{1, 1}, {5, 1}, {9, 1}, {13, 1}, {65537, 1}, {99997, 1},
		{3, 2}, {11, 2}, {99995, 2},
		{7, 3}, {15, 4}, {23, 3}, {99999, 5}, {32767, 15}, {65535, 16}, {98303, 15},
	} {
		p := leaves(ones(x.size))
		want := append(slices.Clone(p), leaf)
		for range x.ways {
			n := len(want)
			want = append(want[:n-2], knot(want[n-2], want[n-1]))
		}
		got, e := front.Add(front.Front{Size: x.size, Peaks: p}, leaf)
		wantFront(t, "P4.2", "Add", got, e, x.size+1, want)
		if len(got.Peaks) != len(p)+1-x.ways {
			t.Errorf("P4.2: Add at size %d leaves %d of %d peaks; want %d to give way", x.size, len(got.Peaks), len(p), x.ways)
		}
	}
}

func TestAddOneByOneIsTheFrontOfTheList(t *testing.T) {
	all := leaves(300)
	var f front.Front
	for n := range len(all) {
		var e api.Errno
		f, e = front.Add(f, all[n])
		wantFront(t, "P4.3", "Add one by one", f, e, n+1, peaks(all[:n+1]))
		of, _ := front.Of(all[:n+1])
		wantFront(t, "P4.3", "Add, and Of,", f, e, of.Size, of.Peaks)
	}
}

func TestAddToTheFrontOfAList(t *testing.T) {
	all := leaves(131)
	for n := range len(all) {
		f, e := front.Of(all[:n])
		if e != api.OK {
			t.Fatalf("P4.1: Of(%d leaves): error %d", n, e)
		}
		got, e := front.Add(f, all[n])
		wantFront(t, "P4.3", "Add to Of", got, e, n+1, peaks(all[:n+1]))
	}
}

func TestAddUpToTheGreatestSize(t *testing.T) {
	all := leaves(api.MaxSize)
	var f front.Front
	for i, leaf := range all {
		var e api.Errno
		if f, e = front.Add(f, leaf); e != api.OK || f.Size != i+1 || front.Check(f) != api.OK {
			t.Fatalf("P4.2: Add at size %d: size %d, %d peaks, error %d", i, f.Size, len(f.Peaks), e)
		}
		if slices.Contains(longLengths, f.Size) {
			wantFront(t, "P4.3", "Add one by one", f, e, i+1, peaks(all[:i+1]))
		}
	}
	got, e := front.Add(f, all[0])
	wantRefused(t, "P4.2", "Add to 100000", got, e, api.ErrLimit)
}

func TestAddToAFullFrontRefusesByItsFormFirst(t *testing.T) {
	for n := range 20 {
		want := api.ErrFrontForm
		if n == ones(api.MaxSize) {
			want = api.ErrLimit
		}
		got, e := front.Add(front.Front{Size: api.MaxSize, Peaks: leaves(n)}, api.Digest{})
		wantRefused(t, "P4.2", "Add to 100000", got, e, want)
	}
}

func TestAddRefusesPeaksTooFewAndTooMany(t *testing.T) {
	for _, size := range append(slices.Clone(longLengths), lengths...) {
		for _, n := range []int{ones(size) - 1, ones(size) + 1} {
			if n < 0 {
				continue
			}
			got, e := front.Add(front.Front{Size: size, Peaks: leaves(n)}, api.Digest{})
			wantRefused(t, "P4.2", "Add to a front of other peaks", got, e, api.ErrFrontForm)
		}
	}
}

func TestAddTakesAnyLeaf(t *testing.T) {
	l := leaves(3)
	f, _ := front.Of(l)
	for _, leaf := range []api.Digest{{}, l[0], l[2], f.Peaks[0]} {
		got, e := front.Add(f, leaf)
		wantFront(t, "P4.2", "Add", got, e, 4, []api.Digest{knot(f.Peaks[0], knot(l[2], leaf))})
	}
}

func FuzzAdd(f *testing.F) {
	f.Add(0, 0)
	f.Add(3, 2)
	f.Add(65535, 16)
	f.Add(100000, 6)
	f.Add(-1, 64)
	f.Fuzz(func(t *testing.T, size, n int) {
		if n < 0 || n > 100 {
			return
		}
		x := front.Front{Size: size, Peaks: leaves(n)}
		right := size >= 0 && size <= api.MaxSize && n == ones(size)
		if e := front.Check(x); (e == api.OK) != right || !right && e != api.ErrFrontForm {
			t.Errorf("P4.1: Check(size %d, %d peaks): %d", size, n, e)
		}
		if d, e := front.Root(x); (e == api.OK) != right || !right && d != (api.Digest{}) {
			t.Errorf("P4.2: Root(size %d, %d peaks): %x, error %d", size, n, d, e)
		}
		got, e := front.Add(x, api.Digest{})
		switch {
		case !right:
			wantRefused(t, "P4.2", "Add", got, e, api.ErrFrontForm)
		case size == api.MaxSize:
			wantRefused(t, "P4.2", "Add", got, e, api.ErrLimit)
		case e != api.OK || got.Size != size+1 || front.Check(got) != api.OK:
			t.Errorf("P4.2: Add at size %d: size %d, %d peaks, error %d", size, got.Size, len(got.Peaks), e)
		}
	})
}
