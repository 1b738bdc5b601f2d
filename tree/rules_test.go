package tree_test

import (
	"slices"
	"testing"

	"estreat/api"
	"estreat/tree"
)

// proofs are the calls that answer a list.
var proofs = []struct {
	name string
	call func(l []api.Digest, at int) ([]api.Digest, api.Errno)
}{
	{"Inclusion", tree.Inclusion},
	{"Consistency", tree.Consistency},
}

// scribble writes over a list, and over what room lies behind it.
func scribble(l []api.Digest) {
	l = l[:cap(l)]
	for i := range l {
		for j := range l[i] {
			l[i][j] ^= 0xa5
		}
	}
}

func TestArgumentsStay(t *testing.T) {
	for _, n := range lengths {
		// A part of a longer list: nothing may be written behind it either.
		whole := leaves(n + 40)
		was := slices.Clone(whole)
		l := whole[:n]
		tree.Root(l)
		for at := -1; at <= n+1; at++ {
			for _, p := range proofs {
				p.call(l, at)
			}
		}
		if !slices.Equal(whole, was) {
			t.Errorf("R2: a list of %d, or what lies behind it, is changed", n)
		}
	}
}

func TestProofsAreNewMemory(t *testing.T) {
	for _, n := range lengths {
		for at := range n + 1 {
			for _, p := range proofs {
				l := leaves(n + 40)
				one, _ := p.call(l[:n], at)
				two, _ := p.call(l[:n], at)
				was := slices.Clone(one)
				scribble(two)
				if !slices.Equal(one, was) {
					t.Errorf("R2: two answers of %s(%d leaves, %d) share memory", p.name, n, at)
				}
				if !slices.Equal(l, leaves(n+40)) {
					t.Errorf("R2: the answer of %s(%d leaves, %d) shares memory with the list", p.name, n, at)
				}
				scribble(l)
				if !slices.Equal(one, was) {
					t.Errorf("R2: the answer of %s(%d leaves, %d) hangs on what the list becomes", p.name, n, at)
				}
			}
		}
	}
}

func TestCallsAnswerTheSameAgain(t *testing.T) {
	for _, n := range lengths {
		l := leaves(n)
		if tree.Root(l) != tree.Root(l) {
			t.Errorf("R2: Root of %d answers otherwise at once again", n)
		}
		for at := -1; at <= n+1; at++ {
			for _, p := range proofs {
				one, e := p.call(l, at)
				// Another list in between must leave nothing behind.
				p.call(leaves(9), 5)
				two, f := p.call(l, at)
				if e != f || !slices.Equal(one, two) {
					t.Errorf("R2: %s(%d leaves, %d) answers otherwise again", p.name, n, at)
				}
			}
		}
	}
}
