package check_test

import (
	"crypto/sha256"
	"encoding/binary"
	"math"
	"slices"
	"testing"

	"estreat/api"
	"estreat/check"
	"estreat/sha"
	"estreat/tree"
)

// lengths are the named edges, and powers of 2 with their neighbours.
var lengths = []int{1, 2, 3, 4, 5, 6, 7, 8, 9, 12, 15, 16, 17, 31, 32, 33, 63, 64, 65, 100}

// longLengths are as many, up to the greatest.
var longLengths = []int{127, 128, 129, 1000, 2000, 4095, 4096, 4097, 65535, 65536, 65537, 98304, 99999, 100000}

// wrongLengths are of no list that is checked.
var wrongLengths = []int{
	math.MinInt, math.MinInt + 1, math.MinInt32, -100001, -100000, -65536, -3, -2, -1,
	100001, 100002, 131072, 1 << 20, math.MaxInt32, 1 << 32, 1<<32 + 1, 1<<32 + 3, 1 << 62, math.MaxInt - 1, math.MaxInt,
}

// leaves are n digests, no two alike.
func leaves(n int) []api.Digest { return digests("leaf", n) }

func digests(name string, n int) []api.Digest {
	l := make([]api.Digest, n)
	for i := range l {
		l[i] = sha256.Sum256(binary.BigEndian.AppendUint64([]byte(name), uint64(i)))
	}
	return l
}

// knot is worked out by the library, so that the tests do not lean on the program's own sums.
func knot(left, right api.Digest) api.Digest {
	return sha256.Sum256(slices.Concat([]byte{1}, left[:], right[:]))
}

// levels are the knots of a tree from the leaves up, made in pairs; one that has no other goes up as it is.
func levels(l []api.Digest) [][]api.Digest {
	all := [][]api.Digest{l}
	for len(l) > 1 {
		var up []api.Digest
		for i := 0; i < len(l); i += 2 {
			if i+1 < len(l) {
				up = append(up, knot(l[i], l[i+1]))
			} else {
				up = append(up, l[i])
			}
		}
		all = append(all, up)
		l = up
	}
	return all
}

// top is a list's root, by levels.
func top(l []api.Digest) api.Digest {
	if len(l) == 0 {
		return sha256.Sum256(nil)
	}
	all := levels(l)
	return all[len(all)-1][0]
}

// siblings are what stands beside the way up from a knot: its level, and its place there.
func siblings(all [][]api.Digest, level, at int) []api.Digest {
	var p []api.Digest
	for ; level < len(all)-1; level++ {
		if beside := at ^ 1; beside < len(all[level]) {
			p = append(p, all[level][beside])
		}
		at >>= 1
	}
	return p
}

// way is how many digests lie beside the way down to place i of n.
func way(n, i int) int {
	k := 0
	for last := n - 1; last > 0; i, last = i>>1, last>>1 {
		if i&1 == 1 || i < last {
			k++
		}
	}
	return k
}

// included makes a root of a leaf and its proof from the leaf up, as RFC 9162 (2.1.3.2) has it done; the program goes down.
func included(n, i int, leaf api.Digest, proof []api.Digest) (api.Digest, bool) {
	last := n - 1
	for _, p := range proof {
		if last == 0 {
			return leaf, false
		}
		if i&1 == 1 || i == last {
			leaf = knot(p, leaf)
			for i&1 == 0 && i != 0 {
				i, last = i>>1, last>>1
			}
		} else {
			leaf = knot(leaf, p)
		}
		i, last = i>>1, last>>1
	}
	return leaf, last == 0
}

// places are the first and the last index of a size, and those beside its split.
func places(size int) []int {
	k := tree.Split(size)
	var l []int
	for _, i := range []int{0, 1, 2, size / 3, size / 2, k - 2, k - 1, k, k + 1, size - 3, size - 2, size - 1} {
		if i >= 0 && i < size && !slices.Contains(l, i) {
			l = append(l, i)
		}
	}
	return l
}

// changed is a list with one digest changed by one bit.
func changed(l []api.Digest, at int) []api.Digest {
	other := slices.Clone(l)
	other[at][at%32] ^= 1 << (at % 8)
	return other
}

func wantIncluded(t *testing.T, what string, root api.Digest, size, index int, leaf api.Digest, proof []api.Digest, want api.Errno) {
	t.Helper()
	if e := check.Included(root, size, index, leaf, proof); e != want {
		t.Errorf("P5.1: Included, %s, size %d, index %d, %d digests: %d; want %d", what, size, index, len(proof), e, want)
	}
}

func TestIncludedOfFew(t *testing.T) {
	l := leaves(7)
	ab, cd, ef := knot(l[0], l[1]), knot(l[2], l[3]), knot(l[4], l[5])
	abcd := knot(ab, cd)
	efg := knot(ef, l[6])
	for _, x := range []struct {
		root  api.Digest
		n, i  int
		proof []api.Digest
	}{
		{l[0], 1, 0, nil},
		{ab, 2, 0, []api.Digest{l[1]}},
		{ab, 2, 1, []api.Digest{l[0]}},
		{knot(ab, l[2]), 3, 0, []api.Digest{l[1], l[2]}},
		{knot(ab, l[2]), 3, 1, []api.Digest{l[0], l[2]}},
		{knot(ab, l[2]), 3, 2, []api.Digest{ab}},
		{abcd, 4, 0, []api.Digest{l[1], cd}},
		{abcd, 4, 1, []api.Digest{l[0], cd}},
		{abcd, 4, 2, []api.Digest{l[3], ab}},
		{abcd, 4, 3, []api.Digest{l[2], ab}},
		{knot(abcd, l[4]), 5, 3, []api.Digest{l[2], ab, l[4]}},
		{knot(abcd, l[4]), 5, 4, []api.Digest{abcd}},
		{knot(abcd, efg), 7, 0, []api.Digest{l[1], cd, efg}},
		{knot(abcd, efg), 7, 4, []api.Digest{l[5], l[6], abcd}},
		{knot(abcd, efg), 7, 5, []api.Digest{l[4], l[6], abcd}},
		{knot(abcd, efg), 7, 6, []api.Digest{ef, abcd}},
	} {
		wantIncluded(t, "a leaf that is there", x.root, x.n, x.i, l[x.i], x.proof, api.OK)
		wantIncluded(t, "another root", l[6], x.n, x.i, l[x.i], x.proof, api.ErrCheckRoot)
		wantIncluded(t, "another leaf", x.root, x.n, x.i, efg, x.proof, api.ErrCheckRoot)
	}
}

func TestIncludedOfEveryPlace(t *testing.T) {
	all := leaves(100)
	for n := 1; n <= len(all); n++ {
		up := levels(all[:n])
		root := up[len(up)-1][0]
		for i := range n {
			proof := siblings(up, 0, i)
			wantIncluded(t, "a leaf that is there", root, n, i, all[i], proof, api.OK)
			wantIncluded(t, "a leaf that is elsewhere", root, n, i, all[(i+1)%100], proof, api.ErrCheckRoot)
		}
	}
}

// The digests are of no list here: what a leaf and a proof make is a root, whatever they are.
func TestIncludedOfAnyDigests(t *testing.T) {
	leaf := leaves(1)[0]
	for _, size := range slices.Concat(lengths, longLengths) {
		for _, i := range places(size) {
			proof := digests("proof", way(size, i))
			root, ok := included(size, i, leaf, proof)
			if !ok {
				t.Fatalf("no root of size %d, index %d", size, i)
			}
			wantIncluded(t, "any digests", root, size, i, leaf, proof, api.OK)
			wantIncluded(t, "another leaf", root, size, i, leaves(2)[1], proof, api.ErrCheckRoot)
			wantIncluded(t, "a leaf of zeros", root, size, i, api.Digest{}, proof, api.ErrCheckRoot)
			for _, other := range []api.Digest{{}, leaf, sha.Empty(), changed([]api.Digest{root}, 0)[0], knot(root, root)} {
				if other != root {
					wantIncluded(t, "another root", other, size, i, leaf, proof, api.ErrCheckRoot)
				}
			}
			for at := range proof {
				wantIncluded(t, "a digest that was changed", root, size, i, leaf, changed(proof, at), api.ErrCheckRoot)
			}
			turned := slices.Clone(proof)
			slices.Reverse(turned)
			if len(proof) > 1 {
				wantIncluded(t, "a proof turned round", root, size, i, leaf, turned, api.ErrCheckRoot)
			}
		}
	}
}

func TestIncludedHangsOnEachBit(t *testing.T) {
	leaf, proof := leaves(1)[0], digests("proof", way(5, 2))
	root, _ := included(5, 2, leaf, proof)
	for b := range 256 {
		flip := func(d api.Digest) api.Digest { d[b/8] ^= 1 << (b % 8); return d }
		wantIncluded(t, "a bit of the root changed", flip(root), 5, 2, leaf, proof, api.ErrCheckRoot)
		wantIncluded(t, "a bit of the leaf changed", root, 5, 2, flip(leaf), proof, api.ErrCheckRoot)
		for at := range proof {
			other := slices.Clone(proof)
			other[at] = flip(other[at])
			wantIncluded(t, "a bit of the proof changed", root, 5, 2, leaf, other, api.ErrCheckRoot)
		}
	}
}

func TestIncludedAtAnotherPlace(t *testing.T) {
	l := leaves(33)
	up := levels(l)
	root := top(l)
	for i := range l {
		proof := siblings(up, 0, i)
		for j := range l {
			want := api.ErrCheckForm
			if j == i {
				want = api.OK
			} else if way(33, j) == len(proof) {
				want = api.ErrCheckRoot
			}
			wantIncluded(t, "another place", root, 33, j, l[i], proof, want)
		}
	}
}

// Every number of digests but one makes nothing, though the root be right of what is there.
func TestIncludedRefusesTooFewAndTooMany(t *testing.T) {
	leaf := leaves(1)[0]
	many := digests("proof", 70)
	for _, size := range slices.Concat(lengths, longLengths) {
		for _, i := range places(size) {
			right := way(size, i)
			root, _ := included(size, i, leaf, many[:right])
			for n := range many {
				want := api.ErrCheckForm
				if n == right {
					want = api.OK
				}
				wantIncluded(t, "so many digests", root, size, i, leaf, many[:n], want)
				if n != right {
					wantIncluded(t, "so many digests, and another root", leaf, size, i, leaf, many[:n], api.ErrCheckForm)
				}
			}
		}
	}
}

func TestIncludedRefusesAProofCutOrLengthened(t *testing.T) {
	all := leaves(70)
	for n := 1; n <= len(all); n++ {
		up := levels(all[:n])
		root := top(all[:n])
		for i := range n {
			proof := siblings(up, 0, i)
			for at := range proof {
				wantIncluded(t, "a digest left out", root, n, i, all[i], slices.Delete(slices.Clone(proof), at, at+1), api.ErrCheckForm)
			}
			for at := range len(proof) + 1 {
				for _, d := range []api.Digest{{}, root, all[i], sha.Empty()} {
					wantIncluded(t, "a digest put in", root, n, i, all[i], slices.Insert(slices.Clone(proof), at, d), api.ErrCheckForm)
				}
			}
		}
	}
}

func TestIncludedRefusesVeryMany(t *testing.T) {
	leaf := leaves(1)[0]
	for _, many := range []int{1000, 65537, 1 << 20} {
		proof := make([]api.Digest, many)
		for _, size := range []int{1, 2, 3, 65536, 100000} {
			for _, i := range places(size) {
				wantIncluded(t, "very many digests", leaf, size, i, leaf, proof, api.ErrCheckForm)
			}
		}
	}
}

func TestIncludedRefusesSizes(t *testing.T) {
	leaf := leaves(1)[0]
	many := digests("proof", 70)
	for _, size := range append([]int{0}, wrongLengths...) {
		for _, i := range []int{math.MinInt, -1, 0, 1, 2, size / 2, size - 2, size - 1, size, size + 1, 99999, 100000, math.MaxInt} {
			for n := range many {
				wantIncluded(t, "a wrong size", leaf, size, i, leaf, many[:n], api.ErrCheckForm)
			}
		}
	}
	wantIncluded(t, "the empty list", sha.Empty(), 0, 0, sha.Empty(), nil, api.ErrCheckForm)
	// What these make would be the root, if the size were not too great.
	proof := digests("proof", way(100001, 5))
	root, _ := included(100001, 5, leaf, proof)
	wantIncluded(t, "one too many", root, 100001, 5, leaf, proof, api.ErrCheckForm)
	proof = digests("proof", way(100001, 100000))
	root, _ = included(100001, 100000, leaf, proof)
	wantIncluded(t, "one too many", root, 100001, 100000, leaf, proof, api.ErrCheckForm)
}

func TestIncludedRefusesIndexes(t *testing.T) {
	many := digests("proof", 20)
	leaf := leaves(1)[0]
	for _, size := range slices.Concat(lengths, longLengths) {
		for _, i := range []int{math.MinInt, math.MinInt + 1, -size - 1, -size, -2, -1, size, size + 1, 2 * size, 1 << 32, math.MaxInt - 1, math.MaxInt} {
			for n := range many {
				wantIncluded(t, "no such index", leaf, size, i, leaf, many[:n], api.ErrCheckForm)
			}
		}
	}
	wantIncluded(t, "the leaf itself, below 0", leaf, 1, -1, leaf, nil, api.ErrCheckForm)
	wantIncluded(t, "the leaf itself, beyond it", leaf, 1, 1, leaf, nil, api.ErrCheckForm)
	// An index beyond the size goes the way of the last one, if nobody looks.
	root, _ := included(3, 2, leaf, many[:1])
	wantIncluded(t, "beyond the last", root, 3, 3, leaf, many[:1], api.ErrCheckForm)
}

func TestIncludedOfOne(t *testing.T) {
	l := leaves(2)
	wantIncluded(t, "the leaf itself", l[0], 1, 0, l[0], nil, api.OK)
	wantIncluded(t, "the leaf itself", l[0], 1, 0, l[0], []api.Digest{}, api.OK)
	wantIncluded(t, "zeros", api.Digest{}, 1, 0, api.Digest{}, nil, api.OK)
	wantIncluded(t, "another leaf", l[0], 1, 0, l[1], nil, api.ErrCheckRoot)
	wantIncluded(t, "a digest", l[0], 1, 0, l[0], l[1:], api.ErrCheckForm)
	wantIncluded(t, "a digest", knot(l[0], l[1]), 1, 0, l[0], l[1:], api.ErrCheckForm)
	wantIncluded(t, "no digest of two leaves", l[0], 2, 0, l[0], nil, api.ErrCheckForm)
	wantIncluded(t, "no digest of two leaves", l[1], 2, 1, l[1], nil, api.ErrCheckForm)
}

func TestWhatInclusionTellsIsFoundOK(t *testing.T) {
	for _, n := range slices.Concat(lengths, []int{127, 128, 129, 255, 256, 257, api.MaxItems}) {
		l := leaves(n)
		root := tree.Root(l)
		at := places(n)
		if n <= 129 {
			at = nil
			for i := range n {
				at = append(at, i)
			}
		}
		for _, i := range at {
			proof, _ := tree.Inclusion(l, i)
			if e := check.Included(root, n, i, l[i], proof); e != api.OK {
				t.Errorf("P5.4: the proof of %d in %d leaves: %d", i, n, e)
			}
		}
	}
}

func TestWhatInclusionTellsOfAFullLogIsFoundOK(t *testing.T) {
	for _, n := range []int{65535, 65536, 65537, api.MaxSize} {
		l := leaves(n)
		root := tree.Root(l)
		for _, i := range []int{0, tree.Split(n) - 1, tree.Split(n), n - 1} {
			if i >= n {
				continue
			}
			proof, _ := tree.Inclusion(l, i)
			if e := check.Included(root, n, i, l[i], proof); e != api.OK {
				t.Errorf("P5.4: the proof of %d in %d leaves: %d", i, n, e)
			}
		}
	}
}

func TestExamples(t *testing.T) {
	a, b, c := sha.Leaf("a"), sha.Leaf("b"), sha.Leaf("c")
	r := tree.Root([]api.Digest{a, b, c})
	wantIncluded(t, "the example", r, 3, 0, a, []api.Digest{b, c}, api.OK)
	wantIncluded(t, "the example", r, 3, 2, c, []api.Digest{sha.Knot(a, b)}, api.OK)
	wantIncluded(t, "the example", r, 3, 0, b, []api.Digest{b, c}, api.ErrCheckRoot)
	wantIncluded(t, "the example", r, 3, 0, a, []api.Digest{b}, api.ErrCheckForm)
	wantIncluded(t, "the example", r, 0, 0, a, nil, api.ErrCheckForm)
	wantConsistent(t, "the example", 1, a, 3, r, []api.Digest{b, c}, api.OK)
	wantConsistent(t, "the example", 0, sha.Empty(), 3, r, nil, api.OK)
	wantConsistent(t, "the example", 3, r, 3, r, nil, api.OK)
	wantNoClash(t, "the example", r, 3, 0, a, []api.Digest{b, c}, a, []api.Digest{b, c})
}

func FuzzIncluded(f *testing.F) {
	f.Add(1, 0, 0)
	f.Add(3, 2, 1)
	f.Add(100000, 99999, 7)
	f.Add(100000, 0, 17)
	f.Add(100001, 0, 17)
	f.Add(0, -1, 64)
	leaf := leaves(1)[0]
	f.Fuzz(func(t *testing.T, size, index, n int) {
		if n < 0 || n > 100 {
			return
		}
		proof := digests("proof", n)
		if size < 1 || size > 100000 || index < 0 || index >= size {
			wantIncluded(t, "a wrong place", leaf, size, index, leaf, proof, api.ErrCheckForm)
			return
		}
		root, ok := included(size, index, leaf, proof)
		if !ok {
			wantIncluded(t, "nothing", root, size, index, leaf, proof, api.ErrCheckForm)
			return
		}
		wantIncluded(t, "what is made", root, size, index, leaf, proof, api.OK)
		wantIncluded(t, "another root", knot(root, root), size, index, leaf, proof, api.ErrCheckRoot)
	})
}
