package front_test

import (
	"crypto/sha256"
	"slices"
	"testing"

	"estreat/api"
	"estreat/front"
)

// scribble writes over a list, and over what room lies behind it.
func scribble(l []api.Digest) {
	l = l[:cap(l)]
	for i := range l {
		for j := range l[i] {
			l[i][j] ^= 0xa5
		}
	}
}

func TestArgumentsStay(t *testing.T) {
	leaf := api.Digest(sha256.Sum256(nil))
	for _, size := range append(slices.Clone(longLengths), lengths...) {
		// The peaks are a part of a longer list: nothing may be written behind them either.
		whole := leaves(40)
		was := slices.Clone(whole)
		for n := range 20 {
			f := front.Front{Size: size, Peaks: whole[:n]}
			front.Check(f)
			front.Add(f, leaf)
			front.Root(f)
			if !slices.Equal(whole, was) || f.Size != size || len(f.Peaks) != n {
				t.Fatalf("R2: a front of size %d and %d peaks, or what lies behind them, is changed", size, n)
			}
		}
	}
}

func TestListsStay(t *testing.T) {
	for _, n := range append([]int{100000, 100001}, lengths...) {
		whole := leaves(n + 40)
		was := slices.Clone(whole)
		front.Of(whole[:n])
		if !slices.Equal(whole, was) {
			t.Errorf("R2: a list of %d, or what lies behind it, is changed", n)
		}
	}
}

func TestOfIsNewMemory(t *testing.T) {
	for _, n := range lengths {
		l := leaves(n + 40)
		one, _ := front.Of(l[:n])
		two, _ := front.Of(l[:n])
		scribble(two.Peaks)
		wantFront(t, "R2", "Of, when another answer is written over,", one, api.OK, n, peaks(leaves(n)))
		if !slices.Equal(l, leaves(n+40)) {
			t.Errorf("R2: the front of %d leaves shares memory with the list", n)
		}
		scribble(l)
		wantFront(t, "R2", "Of, when the list is written over,", one, api.OK, n, peaks(leaves(n)))
	}
}

func TestAddIsNewMemory(t *testing.T) {
	all := leaves(130)
	for _, n := range lengths {
		f, _ := front.Of(all[:n])
		// Room behind the peaks must not be taken for the leaf.
		f.Peaks = append(make([]api.Digest, 0, 40), f.Peaks...)
		one, _ := front.Add(f, all[n])
		two, _ := front.Add(f, api.Digest{})
		wantFront(t, "R2", "Add, when another leaf comes to the same front,", one, api.OK, n+1, peaks(all[:n+1]))
		wantFront(t, "R2", "Add of another leaf", two, api.OK, n+1, peaks(append(slices.Clone(all[:n]), api.Digest{})))
		scribble(two.Peaks)
		wantFront(t, "R2", "Add, when another answer is written over,", one, api.OK, n+1, peaks(all[:n+1]))
		wantFront(t, "R2", "what was handed to Add", f, api.OK, n, peaks(all[:n]))
		scribble(f.Peaks)
		wantFront(t, "R2", "Add, when what was handed in is written over,", one, api.OK, n+1, peaks(all[:n+1]))
	}
}

func TestEarlierFrontsStayAsTheListGrows(t *testing.T) {
	all := leaves(130)
	fronts := []front.Front{{}}
	for _, leaf := range all {
		f, _ := front.Add(fronts[len(fronts)-1], leaf)
		fronts = append(fronts, f)
	}
	for n, f := range fronts {
		wantFront(t, "P4.3", "a front to which leaves came,", f, api.OK, n, peaks(all[:n]))
	}
	for n, f := range slices.Backward(fronts) {
		wantFront(t, "R2", "a front of which a later one is written over,", f, api.OK, n, peaks(all[:n]))
		scribble(f.Peaks)
	}
}

func TestCallsAnswerTheSameAgain(t *testing.T) {
	other := leaves(7)
	for _, n := range lengths {
		l := leaves(n)
		one, _ := front.Of(l)
		root, _ := front.Root(one)
		more, _ := front.Add(one, api.Digest{})
		// Another list in between must leave nothing behind.
		between, _ := front.Of(other)
		front.Add(between, other[0])
		front.Root(between)
		two, e := front.Of(l)
		wantFront(t, "R2", "Of again", two, e, one.Size, one.Peaks)
		wantRoot(t, "R2", two, root)
		again, e := front.Add(two, api.Digest{})
		wantFront(t, "R2", "Add again", again, e, more.Size, more.Peaks)
		if front.Check(one) != api.OK || front.Check(again) != api.OK {
			t.Errorf("R2: Check at size %d answers otherwise again", n)
		}
	}
}
