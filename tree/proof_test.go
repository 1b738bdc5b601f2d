package tree_test

import (
	"math"
	"math/bits"
	"slices"
	"testing"

	"estreat/api"
	"estreat/sha"
	"estreat/tree"
)

// siblings are what stands beside the way up from a knot: its level, and its place there.
func siblings(all [][]api.Digest, level, at int) []api.Digest {
	var p []api.Digest
	for ; level < len(all)-1; level++ {
		if beside := at ^ 1; beside < len(all[level]) {
			p = append(p, all[level][beside])
		}
		at >>= 1
	}
	return p
}

// consistency is the proof by levels: from the knot that ends the first m, and has all of its leaves among them, up.
func consistency(l []api.Digest, m int) []api.Digest {
	if m == 0 || m == len(l) {
		return nil
	}
	all := levels(l)
	level, at := 0, m-1
	for at&1 == 1 {
		level, at = level+1, at>>1
	}
	var p []api.Digest
	if at != 0 {
		p = append(p, all[level][at])
	}
	return append(p, siblings(all, level, at)...)
}

// halvings is the least number of times that n must be halved till 1 is left.
func halvings(n int) int {
	k := 0
	for ; n > 1; n = (n + 1) / 2 {
		k++
	}
	return k
}

func wantProof(t *testing.T, promise, call string, n, at int, got []api.Digest, e api.Errno, want []api.Digest) {
	t.Helper()
	if e != api.OK || !slices.Equal(got, want) {
		t.Errorf("%s: %s(%d leaves, %d): %x, error %d; want %x", promise, call, n, at, got, e, want)
	}
}

func TestInclusionOfFew(t *testing.T) {
	l := leaves(7)
	ab, cd, ef := knot(l[0], l[1]), knot(l[2], l[3]), knot(l[4], l[5])
	abcd := knot(ab, cd)
	for _, x := range []struct {
		n, i int
		want []api.Digest
	}{
		{1, 0, nil},
		{2, 0, []api.Digest{l[1]}},
		{2, 1, []api.Digest{l[0]}},
		{3, 0, []api.Digest{l[1], l[2]}},
		{3, 1, []api.Digest{l[0], l[2]}},
		{3, 2, []api.Digest{ab}},
		{4, 0, []api.Digest{l[1], cd}},
		{4, 1, []api.Digest{l[0], cd}},
		{4, 2, []api.Digest{l[3], ab}},
		{4, 3, []api.Digest{l[2], ab}},
		{5, 3, []api.Digest{l[2], ab, l[4]}},
		{5, 4, []api.Digest{abcd}},
		{7, 0, []api.Digest{l[1], cd, knot(ef, l[6])}},
		{7, 3, []api.Digest{l[2], ab, knot(ef, l[6])}},
		{7, 4, []api.Digest{l[5], l[6], abcd}},
		{7, 5, []api.Digest{l[4], l[6], abcd}},
		{7, 6, []api.Digest{ef, abcd}},
	} {
		got, e := tree.Inclusion(l[:x.n], x.i)
		wantProof(t, "P3.2", "Inclusion", x.n, x.i, got, e, x.want)
	}
}

func TestInclusionOfEveryPlace(t *testing.T) {
	all := leaves(130)
	for n := 1; n <= len(all); n++ {
		l := all[:n]
		up := levels(l)
		for i := range n {
			got, e := tree.Inclusion(l, i)
			wantProof(t, "P3.2", "Inclusion", n, i, got, e, siblings(up, 0, i))
		}
	}
}

func TestInclusionBesideTheSplit(t *testing.T) {
	for _, n := range []int{255, 256, 257, 1023, 1024, 1025, api.MaxItems} {
		l := leaves(n)
		up := levels(l)
		k := tree.Split(n)
		for _, i := range []int{0, 1, k - 1, k, n - 2, n - 1} {
			got, e := tree.Inclusion(l, i)
			wantProof(t, "P3.2", "Inclusion", n, i, got, e, siblings(up, 0, i))
		}
	}
}

func TestInclusionEndsInTheOtherPartsRoot(t *testing.T) {
	for _, n := range lengths {
		if n < 2 {
			continue
		}
		l, k := leaves(n), tree.Split(n)
		for i := range n {
			part, at, beside := l[:k], i, l[k:]
			if i >= k {
				part, at, beside = l[k:], i-k, l[:k]
			}
			inner, _ := tree.Inclusion(part, at)
			got, e := tree.Inclusion(l, i)
			wantProof(t, "P3.2", "Inclusion", n, i, got, e, append(inner, tree.Root(beside)))
		}
	}
}

func TestInclusionRefusesNoPlace(t *testing.T) {
	for _, n := range lengths {
		for _, i := range []int{math.MinInt, math.MinInt + 1, -n - 1, -2, -1, n, n + 1, 2*n + 1, math.MaxInt - 1, math.MaxInt} {
			if p, e := tree.Inclusion(leaves(n), i); e != api.ErrTreeIndex || len(p) != 0 {
				t.Errorf("P3.2: Inclusion(%d leaves, %d): %x, error %d; want ErrTreeIndex and no proof", n, i, p, e)
			}
		}
	}
	if p, e := tree.Inclusion(nil, 0); e != api.ErrTreeIndex || len(p) != 0 {
		t.Errorf("P3.2: Inclusion(nil, 0): %x, error %d; want ErrTreeIndex and no proof", p, e)
	}
}

func TestConsistencyOfFew(t *testing.T) {
	l := leaves(8)
	ab, cd, ef, gh := knot(l[0], l[1]), knot(l[2], l[3]), knot(l[4], l[5]), knot(l[6], l[7])
	abcd, efg := knot(ab, cd), knot(ef, l[6])
	for _, x := range []struct {
		n, m int
		want []api.Digest
	}{
		{0, 0, nil},
		{1, 0, nil},
		{1, 1, nil},
		{2, 0, nil},
		{2, 1, []api.Digest{l[1]}},
		{2, 2, nil},
		{3, 0, nil},
		{3, 1, []api.Digest{l[1], l[2]}},
		{3, 2, []api.Digest{l[2]}},
		{3, 3, nil},
		{4, 1, []api.Digest{l[1], cd}},
		{4, 2, []api.Digest{cd}},
		{4, 3, []api.Digest{l[2], l[3], ab}},
		{5, 3, []api.Digest{l[2], l[3], ab, l[4]}},
		{5, 4, []api.Digest{l[4]}},
		{6, 5, []api.Digest{l[4], l[5], abcd}},
		{7, 3, []api.Digest{l[2], l[3], ab, efg}},
		{7, 4, []api.Digest{efg}},
		{7, 5, []api.Digest{l[4], l[5], l[6], abcd}},
		{7, 6, []api.Digest{ef, l[6], abcd}},
		{8, 6, []api.Digest{ef, gh, abcd}},
		{8, 7, []api.Digest{l[6], l[7], ef, abcd}},
		{8, 8, nil},
	} {
		got, e := tree.Consistency(l[:x.n], x.m)
		wantProof(t, "P3.3", "Consistency", x.n, x.m, got, e, x.want)
	}
	got, e := tree.Consistency(nil, 0)
	wantProof(t, "P3.3", "Consistency", 0, 0, got, e, nil)
}

func TestConsistencyOfEveryBeginning(t *testing.T) {
	all := leaves(130)
	for n := range len(all) + 1 {
		l := all[:n]
		for m := range n + 1 {
			got, e := tree.Consistency(l, m)
			wantProof(t, "P3.3", "Consistency", n, m, got, e, consistency(l, m))
		}
	}
}

func TestConsistencyBesideTheSplit(t *testing.T) {
	for _, n := range []int{255, 256, 257, 1023, 1024, 1025, api.MaxItems} {
		l, k := leaves(n), tree.Split(n)
		for _, m := range []int{0, 1, 2, k - 1, k, k + 1, n - 1, n} {
			got, e := tree.Consistency(l, m)
			wantProof(t, "P3.3", "Consistency", n, m, got, e, consistency(l, m))
		}
	}
}

func TestConsistencyTellsNothingOfNoneAndOfAll(t *testing.T) {
	for _, n := range lengths {
		for _, m := range []int{0, n} {
			if p, e := tree.Consistency(leaves(n), m); e != api.OK || len(p) != 0 {
				t.Errorf("P3.3: Consistency(%d leaves, %d): %x, error %d; want no digest", n, m, p, e)
			}
		}
	}
}

func TestConsistencyRefusesNoBeginning(t *testing.T) {
	for _, n := range lengths {
		for _, m := range []int{math.MinInt, math.MinInt + 1, -n - 1, -2, -1, n + 1, n + 2, 2*n + 1, math.MaxInt - 1, math.MaxInt} {
			if p, e := tree.Consistency(leaves(n), m); e != api.ErrTreeSize || len(p) != 0 {
				t.Errorf("P3.3: Consistency(%d leaves, %d): %x, error %d; want ErrTreeSize and no proof", n, m, p, e)
			}
		}
	}
	for _, m := range []int{-1, 1} {
		if p, e := tree.Consistency(nil, m); e != api.ErrTreeSize || len(p) != 0 {
			t.Errorf("P3.3: Consistency(nil, %d): %x, error %d; want ErrTreeSize and no proof", m, p, e)
		}
	}
}

// way is how many halves lie on the way down to place i of n.
func way(n, i int) int {
	k := 0
	for n > 1 {
		k++
		if s := 1 << (bits.Len(uint(n-1)) - 1); i < s {
			n = s
		} else {
			n, i = n-s, i-s
		}
	}
	return k
}

func TestInclusionHasADigestForEachHalf(t *testing.T) {
	for _, n := range lengths {
		for i := range n {
			p, _ := tree.Inclusion(leaves(n), i)
			if len(p) != way(n, i) || len(p) > halvings(n) {
				t.Errorf("P3.4: Inclusion(%d leaves, %d) has %d digests; want %d, and at most %d", n, i, len(p), way(n, i), halvings(n))
			}
		}
	}
}

func TestConsistencyHasADigestForEachHalf(t *testing.T) {
	for _, n := range lengths {
		for m := 1; m < n; m++ {
			// The way ends above the greatest knot that ends the first m; it is told, but where it is all of them.
			low := bits.TrailingZeros(uint(m))
			want := way(n, m-1) - low
			if m != 1<<low {
				want++
			}
			p, _ := tree.Consistency(leaves(n), m)
			if len(p) != want || len(p) > halvings(n)+1 {
				t.Errorf("P3.4: Consistency(%d leaves, %d) has %d digests; want %d, and at most %d", n, m, len(p), want, halvings(n)+1)
			}
		}
	}
}

func TestProofsOfAFullLogAreShort(t *testing.T) {
	l := leaves(api.MaxSize)
	up := levels(l)
	for _, i := range []int{0, tree.Split(len(l)) - 1, tree.Split(len(l)), len(l) - 1} {
		p, e := tree.Inclusion(l, i)
		wantProof(t, "P3.2", "Inclusion", len(l), i, p, e, siblings(up, 0, i))
		if len(p) > 17 {
			t.Errorf("P3.4: Inclusion(%d leaves, %d) has %d digests", len(l), i, len(p))
		}
	}
	for _, m := range []int{1, 65535, 65536, 65537, len(l) - 1} {
		p, e := tree.Consistency(l, m)
		wantProof(t, "P3.3", "Consistency", len(l), m, p, e, consistency(l, m))
		if len(p) > 18 {
			t.Errorf("P3.4: Consistency(%d leaves, %d) has %d digests", len(l), m, len(p))
		}
	}
}

func TestExamples(t *testing.T) {
	a, b, c := sha.Leaf("a"), sha.Leaf("b"), sha.Leaf("c")
	l := []api.Digest{a, b, c}
	if tree.Root(l) != sha.Knot(sha.Knot(a, b), c) {
		t.Error("P3.1: Root(A B C)")
	}
	for i, want := range [][]api.Digest{{b, c}, {a, c}, {sha.Knot(a, b)}} {
		got, e := tree.Inclusion(l, i)
		wantProof(t, "P3.2", "Inclusion", 3, i, got, e, want)
	}
	for m, want := range [][]api.Digest{nil, {b, c}, {c}, nil} {
		got, e := tree.Consistency(l, m)
		wantProof(t, "P3.3", "Consistency", 3, m, got, e, want)
	}
}
