package check_test

import (
	"math"
	"math/bits"
	"slices"
	"testing"

	"estreat/api"
	"estreat/check"
	"estreat/sha"
	"estreat/tree"
)

// consistency is the proof by levels: from the knot that ends the first m, and has all of its leaves among them, up.
func consistency(l []api.Digest, m int) []api.Digest {
	if m == 0 || m == len(l) {
		return nil
	}
	all := levels(l)
	level, at := 0, m-1
	for at&1 == 1 {
		level, at = level+1, at>>1
	}
	var p []api.Digest
	if at != 0 {
		p = append(p, all[level][at])
	}
	return append(p, siblings(all, level, at)...)
}

// growth is how many digests a proof from m to n has.
func growth(m, n int) int {
	if m == n {
		return 0
	}
	// The way ends above the greatest knot that ends the first m; it is told, but where it is all of them.
	low := bits.TrailingZeros(uint(m))
	k := way(n, m-1) - low
	if m != 1<<low {
		k++
	}
	return k
}

// consistent makes the roots of the first m and of all n from the leaves up, as RFC 9162 (2.1.4.2) has it done, for 0 < m <= n; the program goes down.
func consistent(m, n int, old api.Digest, proof []api.Digest) (first, all api.Digest, ok bool) {
	if m == n {
		return old, old, len(proof) == 0
	}
	if m&(m-1) == 0 {
		proof = append([]api.Digest{old}, proof...)
	}
	if len(proof) == 0 {
		return first, all, false
	}
	at, last := m-1, n-1
	for at&1 == 1 {
		at, last = at>>1, last>>1
	}
	first, all = proof[0], proof[0]
	for _, p := range proof[1:] {
		if last == 0 {
			return first, all, false
		}
		if at&1 == 1 || at == last {
			first, all = knot(p, first), knot(p, all)
			for at&1 == 0 && at != 0 {
				at, last = at>>1, last>>1
			}
		} else {
			all = knot(all, p)
		}
		at, last = at>>1, last>>1
	}
	return first, all, last == 0
}

// beginnings are an m of 1 and of n, and those beside the splits on the ways.
func beginnings(n int) []int {
	k := tree.Split(n)
	h := tree.Split(n - k)
	var l []int
	for _, m := range []int{1, 2, 3, k / 2, k - 1, k, k + 1, k + h - 1, k + h, k + h + 1, n / 3, n / 2, n - 2, n - 1, n} {
		if m >= 1 && m <= n && !slices.Contains(l, m) {
			l = append(l, m)
		}
	}
	return l
}

func wantConsistent(t *testing.T, what string, m int, old api.Digest, n int, root api.Digest, proof []api.Digest, want api.Errno) {
	t.Helper()
	if e := check.Consistent(m, old, n, root, proof); e != want {
		t.Errorf("P5.2: Consistent, %s, m %d, n %d, %d digests: %d; want %d", what, m, n, len(proof), e, want)
	}
}

func TestConsistentOfFew(t *testing.T) {
	l := leaves(8)
	ab, cd, ef, gh := knot(l[0], l[1]), knot(l[2], l[3]), knot(l[4], l[5]), knot(l[6], l[7])
	abc, abcd, efg := knot(ab, l[2]), knot(ab, cd), knot(ef, l[6])
	all8 := knot(abcd, knot(ef, gh))
	for _, x := range []struct {
		m     int
		old   api.Digest
		n     int
		root  api.Digest
		proof []api.Digest
	}{
		{1, l[0], 2, ab, []api.Digest{l[1]}},
		{1, l[0], 3, abc, []api.Digest{l[1], l[2]}},
		{2, ab, 3, abc, []api.Digest{l[2]}},
		{1, l[0], 4, abcd, []api.Digest{l[1], cd}},
		{2, ab, 4, abcd, []api.Digest{cd}},
		{3, abc, 4, abcd, []api.Digest{l[2], l[3], ab}},
		{3, abc, 5, knot(abcd, l[4]), []api.Digest{l[2], l[3], ab, l[4]}},
		{4, abcd, 5, knot(abcd, l[4]), []api.Digest{l[4]}},
		{5, knot(abcd, l[4]), 6, knot(abcd, ef), []api.Digest{l[4], l[5], abcd}},
		{3, abc, 7, knot(abcd, efg), []api.Digest{l[2], l[3], ab, efg}},
		{5, knot(abcd, l[4]), 7, knot(abcd, efg), []api.Digest{l[4], l[5], l[6], abcd}},
		{6, knot(abcd, ef), 7, knot(abcd, efg), []api.Digest{ef, l[6], abcd}},
		{6, knot(abcd, ef), 8, all8, []api.Digest{ef, gh, abcd}},
		{7, knot(abcd, efg), 8, all8, []api.Digest{l[6], l[7], ef, abcd}},
	} {
		wantConsistent(t, "what goes on", x.m, x.old, x.n, x.root, x.proof, api.OK)
		wantConsistent(t, "another old root", x.m, x.root, x.n, x.root, x.proof, api.ErrCheckRoot)
		wantConsistent(t, "another root", x.m, x.old, x.n, x.old, x.proof, api.ErrCheckRoot)
		wantConsistent(t, "roots changed over", x.m, x.root, x.n, x.old, x.proof, api.ErrCheckRoot)
	}
}

func TestConsistentOfEveryBeginning(t *testing.T) {
	all := leaves(70)
	roots := []api.Digest{sha.Empty()}
	for n := 1; n <= len(all); n++ {
		roots = append(roots, top(all[:n]))
		for m := range n + 1 {
			proof := consistency(all[:n], m)
			wantConsistent(t, "what goes on", m, roots[m], n, roots[n], proof, api.OK)
			wantConsistent(t, "an old root of others", m, all[69], n, roots[n], proof, api.ErrCheckRoot)
			if m > 0 {
				wantConsistent(t, "a root of others", m, roots[m], n, all[69], proof, api.ErrCheckRoot)
			}
		}
	}
}

// The digests are of no list here: what a proof makes are roots, whatever its digests are.
func TestConsistentOfAnyDigests(t *testing.T) {
	known := leaves(1)[0]
	for _, n := range slices.Concat(lengths, longLengths) {
		for _, m := range beginnings(n) {
			proof := digests("proof", growth(m, n))
			old, root, ok := consistent(m, n, known, proof)
			if !ok {
				t.Fatalf("no roots of m %d, n %d", m, n)
			}
			wantConsistent(t, "any digests", m, old, n, root, proof, api.OK)
			for _, other := range []api.Digest{{}, sha.Empty(), changed([]api.Digest{old}, 0)[0], knot(root, root)} {
				wantConsistent(t, "another old root", m, other, n, root, proof, api.ErrCheckRoot)
				wantConsistent(t, "another root", m, old, n, other, proof, api.ErrCheckRoot)
				if m < n {
					wantConsistent(t, "other roots", m, other, n, other, proof, api.ErrCheckRoot)
				}
			}
			for at := range proof {
				wantConsistent(t, "a digest that was changed", m, old, n, root, changed(proof, at), api.ErrCheckRoot)
			}
			turned := slices.Clone(proof)
			slices.Reverse(turned)
			if len(proof) > 1 {
				wantConsistent(t, "a proof turned round", m, old, n, root, turned, api.ErrCheckRoot)
			}
		}
	}
}

// An old root is asked for, though the proof alone makes the root: where it is not known, and where it is.
func TestConsistentAsksForBothRoots(t *testing.T) {
	l := leaves(8)
	for n := 2; n <= len(l); n++ {
		for m := 1; m < n; m++ {
			proof := consistency(l[:n], m)
			for k := 1; k <= n; k++ {
				if k != m {
					wantConsistent(t, "the root of another beginning", m, top(l[:k]), n, top(l[:n]), proof, api.ErrCheckRoot)
				}
				if k != n {
					wantConsistent(t, "the root of another list", m, top(l[:m]), n, top(l[:k]), proof, api.ErrCheckRoot)
				}
			}
		}
	}
}

func TestConsistentHangsOnEachBit(t *testing.T) {
	for _, m := range []int{2, 3, 4, 5} {
		proof := digests("proof", growth(m, 7))
		old, root, _ := consistent(m, 7, leaves(1)[0], proof)
		for b := range 256 {
			flip := func(d api.Digest) api.Digest { d[b/8] ^= 1 << (b % 8); return d }
			wantConsistent(t, "a bit of the old root changed", m, flip(old), 7, root, proof, api.ErrCheckRoot)
			wantConsistent(t, "a bit of the root changed", m, old, 7, flip(root), proof, api.ErrCheckRoot)
			for at := range proof {
				other := slices.Clone(proof)
				other[at] = flip(other[at])
				wantConsistent(t, "a bit of the proof changed", m, old, 7, root, other, api.ErrCheckRoot)
			}
		}
	}
}

func TestConsistentRefusesTooFewAndTooMany(t *testing.T) {
	known := leaves(1)[0]
	many := digests("proof", 70)
	for _, n := range slices.Concat(lengths, longLengths) {
		for _, m := range beginnings(n) {
			right := growth(m, n)
			old, root, _ := consistent(m, n, known, many[:right])
			for k := range many {
				want := api.ErrCheckForm
				if k == right {
					want = api.OK
				}
				wantConsistent(t, "so many digests", m, old, n, root, many[:k], want)
				if k != right {
					wantConsistent(t, "so many digests, and other roots", m, many[69], n, many[68], many[:k], api.ErrCheckForm)
				}
			}
		}
	}
}

func TestConsistentRefusesAProofCutOrLengthened(t *testing.T) {
	all := leaves(40)
	for n := 1; n <= len(all); n++ {
		root := top(all[:n])
		for m := range n + 1 {
			old, proof := top(all[:m]), consistency(all[:n], m)
			for at := range proof {
				wantConsistent(t, "a digest left out", m, old, n, root, slices.Delete(slices.Clone(proof), at, at+1), api.ErrCheckForm)
			}
			for at := range len(proof) + 1 {
				// The old root ahead is what the proof would have, if it were not known.
				for _, d := range []api.Digest{{}, old, root, sha.Empty()} {
					wantConsistent(t, "a digest put in", m, old, n, root, slices.Insert(slices.Clone(proof), at, d), api.ErrCheckForm)
				}
			}
		}
	}
}

func TestConsistentRefusesVeryMany(t *testing.T) {
	d := leaves(1)[0]
	for _, many := range []int{1000, 65537, 1 << 20} {
		proof := make([]api.Digest, many)
		for _, n := range []int{1, 2, 3, 65536, 100000} {
			for _, m := range append([]int{0}, beginnings(n)...) {
				wantConsistent(t, "very many digests", m, d, n, d, proof, api.ErrCheckForm)
			}
		}
		wantConsistent(t, "very many digests", 0, sha.Empty(), 0, sha.Empty(), proof, api.ErrCheckForm)
	}
}

func TestConsistentOfTheSame(t *testing.T) {
	l := leaves(3)
	for _, n := range slices.Concat(lengths, longLengths) {
		wantConsistent(t, "the same", n, l[0], n, l[0], nil, api.OK)
		wantConsistent(t, "the same", n, l[0], n, l[0], []api.Digest{}, api.OK)
		wantConsistent(t, "the same, zeros", n, api.Digest{}, n, api.Digest{}, nil, api.OK)
		wantConsistent(t, "the same size, another root", n, l[0], n, l[1], nil, api.ErrCheckRoot)
		wantConsistent(t, "the same size, the empty root", n, sha.Empty(), n, l[1], nil, api.ErrCheckRoot)
		for _, proof := range [][]api.Digest{l[:1], l[1:2], l[:2], l} {
			wantConsistent(t, "the same, with digests", n, l[0], n, l[0], proof, api.ErrCheckForm)
			wantConsistent(t, "the same size, another root, with digests", n, l[0], n, l[1], proof, api.ErrCheckForm)
		}
	}
}

func TestConsistentOfNone(t *testing.T) {
	l := leaves(3)
	empty := sha.Empty()
	for _, n := range slices.Concat(lengths, longLengths) {
		for _, root := range []api.Digest{{}, empty, l[0]} {
			wantConsistent(t, "none", 0, empty, n, root, nil, api.OK)
			wantConsistent(t, "none", 0, empty, n, root, []api.Digest{}, api.OK)
			wantConsistent(t, "none, another old root", 0, l[0], n, root, nil, api.ErrCheckRoot)
			wantConsistent(t, "none, an old root of zeros", 0, api.Digest{}, n, root, nil, api.ErrCheckRoot)
			for k := 1; k <= 3; k++ {
				wantConsistent(t, "none, with digests", 0, empty, n, root, l[:k], api.ErrCheckForm)
				wantConsistent(t, "none, another old root, with digests", 0, l[0], n, root, l[:k], api.ErrCheckForm)
			}
		}
	}
}

func TestConsistentOfNoneAndNone(t *testing.T) {
	l := leaves(2)
	empty := sha.Empty()
	wantConsistent(t, "none and none", 0, empty, 0, empty, nil, api.OK)
	wantConsistent(t, "none and none, another root", 0, empty, 0, l[0], nil, api.ErrCheckRoot)
	wantConsistent(t, "none and none, a root of zeros", 0, empty, 0, api.Digest{}, nil, api.ErrCheckRoot)
	wantConsistent(t, "none and none, another old root", 0, l[0], 0, empty, nil, api.ErrCheckRoot)
	wantConsistent(t, "none and none, others that are alike", 0, l[0], 0, l[0], nil, api.ErrCheckRoot)
	wantConsistent(t, "none and none, zeros", 0, api.Digest{}, 0, api.Digest{}, nil, api.ErrCheckRoot)
	wantConsistent(t, "none and none, a digest", 0, empty, 0, empty, l[:1], api.ErrCheckForm)
	wantConsistent(t, "none and none, another root, a digest", 0, empty, 0, l[0], l[:1], api.ErrCheckForm)
}

func TestConsistentRefusesSizes(t *testing.T) {
	d := sha.Empty()
	many := digests("proof", 70)
	for _, n := range wrongLengths {
		for _, m := range []int{math.MinInt, n - 1, n, n + 1, -1, 0, 1, 2, 3, n / 2, 65536, 100000, 100001, math.MaxInt} {
			for k := range many {
				wantConsistent(t, "a wrong size", m, d, n, d, many[:k], api.ErrCheckForm)
			}
		}
	}
	// What these make would be the roots, if the size were not too great.
	for _, m := range beginnings(100001) {
		proof := digests("proof", growth(m, 100001))
		old, root, _ := consistent(m, 100001, d, proof)
		wantConsistent(t, "one too many", m, old, 100001, root, proof, api.ErrCheckForm)
	}
}

func TestConsistentRefusesBeginnings(t *testing.T) {
	d := sha.Empty()
	many := digests("proof", 20)
	for _, n := range slices.Concat([]int{0}, lengths, longLengths) {
		for _, m := range []int{math.MinInt, math.MinInt + 1, -n - 1, -2, -1, n + 1, n + 2, 2*n + 1, 1 << 32, math.MaxInt - 1, math.MaxInt} {
			for k := range many {
				wantConsistent(t, "no such beginning", m, d, n, d, many[:k], api.ErrCheckForm)
			}
		}
	}
}

func TestConsistentOfOtherSizes(t *testing.T) {
	l := leaves(20)
	for n := 1; n <= len(l); n++ {
		for m := 1; m < n; m++ {
			proof := consistency(l[:n], m)
			for k := 1; k <= n; k++ {
				want := api.ErrCheckForm
				if k == m {
					want = api.OK
				} else if growth(k, n) == len(proof) {
					want = api.ErrCheckRoot
				}
				wantConsistent(t, "the proof of another beginning", k, top(l[:m]), n, top(l[:n]), proof, want)
			}
		}
	}
}

func TestWhatConsistencyTellsIsFoundOK(t *testing.T) {
	all := leaves(130)
	var roots []api.Digest
	for n := range len(all) + 1 {
		roots = append(roots, tree.Root(all[:n]))
		for m := range n + 1 {
			proof, _ := tree.Consistency(all[:n], m)
			if e := check.Consistent(m, roots[m], n, roots[n], proof); e != api.OK {
				t.Errorf("P5.4: the proof from %d to %d leaves: %d", m, n, e)
			}
		}
	}
}

func TestWhatConsistencyTellsOfLongListsIsFoundOK(t *testing.T) {
	for _, n := range []int{255, 256, 257, api.MaxItems, 65536, 65537, api.MaxSize} {
		l := leaves(n)
		root := tree.Root(l)
		for _, m := range []int{0, 1, 3, tree.Split(n) - 1, tree.Split(n), tree.Split(n) + 1, n - 1, n} {
			proof, _ := tree.Consistency(l, m)
			if e := check.Consistent(m, tree.Root(l[:m]), n, root, proof); e != api.OK {
				t.Errorf("P5.4: the proof from %d to %d leaves: %d", m, n, e)
			}
		}
	}
}

func FuzzConsistent(f *testing.F) {
	f.Add(0, 0, 0)
	f.Add(1, 1, 0)
	f.Add(1, 3, 2)
	f.Add(65537, 100000, 18)
	f.Add(99999, 100000, 8)
	f.Add(100001, 100001, 0)
	f.Add(-1, 3, 64)
	known := leaves(1)[0]
	f.Fuzz(func(t *testing.T, m, n, k int) {
		if k < 0 || k > 100 {
			return
		}
		proof := digests("proof", k)
		if n < 0 || n > 100000 || m < 0 || m > n {
			wantConsistent(t, "wrong sizes", m, known, n, known, proof, api.ErrCheckForm)
			return
		}
		if m == 0 {
			want := api.ErrCheckForm
			if k == 0 {
				want = api.ErrCheckRoot
			}
			wantConsistent(t, "none", m, known, n, known, proof, want)
			return
		}
		old, root, ok := consistent(m, n, known, proof)
		if !ok {
			wantConsistent(t, "nothing", m, known, n, known, proof, api.ErrCheckForm)
			return
		}
		wantConsistent(t, "what is made", m, old, n, root, proof, api.OK)
		wantConsistent(t, "another root", m, old, n, knot(root, root), proof, api.ErrCheckRoot)
		wantConsistent(t, "another old root", m, knot(old, old), n, root, proof, api.ErrCheckRoot)
	})
}
