package tree_test

import (
	"testing"

	"estreat/api"
	"estreat/tree"
)

// included makes a root of a leaf and its proof, as RFC 9162 (2.1.3.2) has it done.
func included(n, i int, leaf api.Digest, proof []api.Digest) (api.Digest, bool) {
	last := n - 1
	for _, p := range proof {
		if last == 0 {
			return leaf, false
		}
		if i&1 == 1 || i == last {
			leaf = knot(p, leaf)
			for i&1 == 0 && i != 0 {
				i, last = i>>1, last>>1
			}
		} else {
			leaf = knot(leaf, p)
		}
		i, last = i>>1, last>>1
	}
	return leaf, last == 0
}

// consistent makes the roots of the first m and of all n, as RFC 9162 (2.1.4.2) has it done, for 0 < m < n.
func consistent(m, n int, old api.Digest, proof []api.Digest) (first, all api.Digest, ok bool) {
	if m&(m-1) == 0 {
		proof = append([]api.Digest{old}, proof...)
	}
	if len(proof) == 0 {
		return first, all, false
	}
	at, last := m-1, n-1
	for at&1 == 1 {
		at, last = at>>1, last>>1
	}
	first, all = proof[0], proof[0]
	for _, p := range proof[1:] {
		if last == 0 {
			return first, all, false
		}
		if at&1 == 1 || at == last {
			first, all = knot(p, first), knot(p, all)
			for at&1 == 0 && at != 0 {
				at, last = at>>1, last>>1
			}
		} else {
			all = knot(all, p)
		}
		at, last = at>>1, last>>1
	}
	return first, all, last == 0
}

func TestInclusionMakesTheRoot(t *testing.T) {
	for _, n := range lengths {
		l := leaves(n)
		for i := range l {
			p, _ := tree.Inclusion(l, i)
			if got, ok := included(n, i, l[i], p); !ok || got != tree.Root(l) {
				t.Errorf("P3.2: the proof of %d in %d leaves does not make their root", i, n)
			}
		}
	}
}

func TestConsistencyMakesBothRoots(t *testing.T) {
	for _, n := range lengths {
		l := leaves(n)
		for m := 1; m < n; m++ {
			p, _ := tree.Consistency(l, m)
			first, all, ok := consistent(m, n, tree.Root(l[:m]), p)
			if !ok || first != tree.Root(l[:m]) || all != tree.Root(l) {
				t.Errorf("P3.3, P3.4: the proof from %d to %d leaves does not make both of their roots", m, n)
			}
		}
	}
}
