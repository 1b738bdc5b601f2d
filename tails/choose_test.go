package tails_test

import (
	"testing"

	"estreat/api"
	"estreat/tails"
)

// wantChoose holds Choose against the words.
func wantChoose(t *testing.T, l []api.Tail) {
	t.Helper()
	best, commit, ok := tails.Choose(l)
	want, wantCommit, wantOk := chosen(l)
	if !same(best, want) || commit != wantCommit || ok != wantOk {
		t.Errorf("P16.2: Choose is %s; %d, %v; want %s; %d, %v; of %s", brief(best), commit, ok, brief(want), wantCommit, wantOk, brief(l))
	}
	if !ok && (!same(best, api.Tail{}) || commit != 0) {
		t.Errorf("R1: Choose is false, and %s, %d", brief(best), commit)
	}
}

// wantChosen is wantChoose, of what is told: the place in l of what is chosen, below 0 for none; and the number.
func wantChosen(t *testing.T, name string, place, commit int, l ...api.Tail) {
	t.Helper()
	wantChoose(t, l)
	best, n, ok := tails.Choose(l)
	if place < 0 {
		if ok || n != 0 || !same(best, api.Tail{}) {
			t.Errorf("P16.2: Choose, %s: %s; %d, %v", name, brief(best), n, ok)
		}
		return
	}
	if !ok || n != commit || !same(best, l[place]) {
		t.Errorf("P16.2: Choose, %s: %s; %d, %v; want the tail %d, %d", name, brief(best), n, ok, place, commit)
	}
}

func TestChooseOfTheChapter(t *testing.T) {
	wantChosen(t, "T(1, 1, 3) T(2, 1, 5)", 1, 0, first(1, 3), first(2, 5))
	wantChosen(t, "T(1, 1, 3)", -1, 0, first(1, 3))
	wantChosen(t, "T(1, 1, 3) T(2, 1, 3)", 0, 0, first(1, 3), first(2, 3))
}

// Two of the nodes that there are must be there; which others are plays no part in that.
func TestChooseOfNodes(t *testing.T) {
	a, b, c := loose(1, 1, 3, 0, 1), loose(2, 1, 2, 0, 2), loose(3, 1, 1, 0, 3)
	wantChosen(t, "none", -1, 0)
	for _, x := range []api.Tail{a, b, c} {
		wantChosen(t, "one", -1, 0, x)
		wantChosen(t, "one, twice", -1, 0, x, x)
		wantChosen(t, "one, several times", -1, 0, x, loose(x.Node, 4, 4, 4, 4), loose(x.Node, 5, 5, 5, 5), x)
		for _, n := range among(farOff, 0, 4, 5, 257, 258) {
			wantChosen(t, "one beside a node that there is not", -1, 0, x, loose(n, 9, 9, 9, 9))
			wantChosen(t, "one behind a node that there is not", -1, 0, loose(n, 9, 9, 9, 9), x)
			wantChosen(t, "one beside two that there are not", -1, 0, loose(n, 9, 9, 9, 9), x, loose(6, 9, 9, 9, 9))
		}
	}
	for _, n := range among(farOff, 0, 4, 5, 257, 258) {
		wantChosen(t, "only nodes that there are not", -1, 0, loose(n, 1, 1, 1, 1), loose(7, 1, 1, 1, 1), loose(8, 1, 1, 1, 1))
		wantChosen(t, "two beside a node that there is not", 0, 0, a, b, loose(n, 1, 2, 0, 9))
		// By the words a tail of such a node is one of l, and may be chosen.
		wantChosen(t, "two beside a longer one of a node that there is not", 2, 0, a, b, loose(n, 1, 4, 0, 9))
		wantChosen(t, "two behind a later one of a node that there is not", 0, 0, loose(n, 2, 0, 0, 9), a, b)
		wantChosen(t, "two beside the Commit of a node that there is not", 0, 2, a, b, loose(n, 1, 1, 2, 9))
	}
	wantChosen(t, "1 and 2", 0, 0, a, b)
	wantChosen(t, "1 and 3", 0, 0, a, c)
	wantChosen(t, "2 and 3", 0, 0, b, c)
	wantChosen(t, "3 and 2", 1, 0, c, b)
	wantChosen(t, "three", 0, 0, a, b, c)
	wantChosen(t, "three, falling", 2, 0, c, b, a)
	wantChosen(t, "one twice, and another", 1, 0, c, b, c)
	wantChosen(t, "one twice, the second of which is longer", 2, 0, b, c, loose(2, 1, 4, 0, 9))
}

func TestChooseOfLogsAndItems(t *testing.T) {
	wantChosen(t, "a greater Log with less items", 1, 0, loose(1, 1, 9, 0, 1), loose(2, 2, 1, 0, 2))
	wantChosen(t, "a greater Log without items", 1, 0, loose(1, 1, 9, 0, 1), loose(2, 2, 0, 0, 2))
	wantChosen(t, "a greater Log first", 0, 0, loose(1, 2, 0, 0, 1), loose(2, 1, 9, 0, 2))
	wantChosen(t, "the same Log, more items last", 2, 0, loose(1, 2, 3, 0, 1), loose(2, 2, 4, 0, 2), loose(3, 2, 5, 0, 3))
	wantChosen(t, "the same Log, more items in the midst", 1, 0, loose(1, 2, 3, 0, 1), loose(2, 2, 6, 0, 2), loose(3, 2, 5, 0, 3))
	wantChosen(t, "the same Log, more items first", 0, 0, loose(1, 2, 7, 0, 1), loose(2, 2, 6, 0, 2), loose(3, 2, 5, 0, 3))
	wantChosen(t, "as many: the first", 0, 0, loose(1, 2, 3, 0, 1), loose(2, 2, 3, 0, 2), loose(3, 2, 3, 0, 3))
	wantChosen(t, "as many, not by Node", 0, 0, loose(3, 2, 3, 0, 1), loose(1, 2, 3, 0, 2))
	wantChosen(t, "as many, behind one of less", 1, 0, loose(1, 2, 2, 0, 1), loose(3, 2, 3, 0, 2), loose(2, 2, 3, 0, 3))
	wantChosen(t, "as many, behind a longer one of a lower Log", 1, 0, loose(1, 1, 5, 0, 1), loose(3, 2, 3, 0, 2), loose(2, 2, 3, 0, 3))
	wantChosen(t, "as many, of one node", 1, 0, loose(2, 1, 1, 0, 1), loose(1, 2, 3, 0, 2), loose(1, 2, 3, 0, 3))
	for _, n := range farOff {
		if n < 7 {
			wantChosen(t, "a Log far below", 1, 0, loose(1, n, 9, 0, 1), loose(2, 7, 1, 0, 2))
		} else {
			wantChosen(t, "a Log far above", 0, 0, loose(1, n, 1, 0, 1), loose(2, 7, 9, 0, 2))
		}
		wantChosen(t, "the same Log far off", 1, 0, loose(1, n, 1, 0, 1), loose(2, n, 2, 0, 2))
	}
	wantChosen(t, "the least and the greatest Log", 1, 0, loose(1, farOff[0], 9, 0, 1), loose(2, farOff[19], 1, 0, 2))
	wantChosen(t, "the greatest and the least Log", 0, 0, loose(1, farOff[19], 1, 0, 1), loose(2, farOff[0], 9, 0, 2))
}

func TestChooseOfCommits(t *testing.T) {
	a, b := loose(1, 1, 5, 0, 1), loose(2, 2, 3, 0, 2)
	commit := func(x api.Tail, n int) api.Tail {
		x.Commit = n
		return x
	}
	wantChosen(t, "0", 1, 0, a, b)
	wantChosen(t, "in what is chosen", 1, 2, commit(a, 1), commit(b, 2))
	wantChosen(t, "in another, below its number", 1, 2, commit(a, 2), commit(b, 1))
	wantChosen(t, "in another, at its number", 1, 3, commit(a, 3), commit(b, 1))
	wantChosen(t, "in another, one above its number", 1, 3, commit(a, 4), commit(b, 1))
	wantChosen(t, "in another, far above its number", 1, 3, commit(a, farOff[19]), commit(b, 1))
	wantChosen(t, "in what is chosen, above its number", 1, 3, a, commit(b, 9))
	wantChosen(t, "in the first of three", 1, 2, commit(a, 2), b, loose(3, 1, 1, 1, 3))
	wantChosen(t, "in the last of three", 1, 2, a, commit(b, 1), loose(3, 1, 1, 2, 3))
	wantChosen(t, "in a second one of a node", 1, 2, a, b, commit(a, 2), commit(a, 1))
	wantChosen(t, "what is chosen has no items", 1, 0, commit(a, 5), loose(2, 2, 0, 0, 2))
	wantChosen(t, "one below 0", 1, 0, commit(a, -1), b)
	// Commits that are not right may all be below 0: the greatest of them is told, as the words are.
	wantChosen(t, "all below 0", 1, -2, commit(a, -2), commit(b, -3))
	wantChosen(t, "all far below 0", 1, farOff[1], commit(a, farOff[0]), commit(b, farOff[1]))
	for _, n := range farOff {
		wantChosen(t, "any Commit", 1, max(0, min(n, 3)), commit(a, n), b)
	}
}

// All rows of up to four out of some tails, which differ in Node, Log, number and Commit.
func TestChooseOfAllShortRows(t *testing.T) {
	some := []api.Tail{
		loose(1, 1, 2, 1, 1), loose(1, 2, 1, 0, 2), loose(2, 1, 2, 2, 3), loose(2, 2, 1, 1, 4), loose(3, 2, 0, 0, 5),
		loose(3, 1, 3, 3, 6), loose(3, 2, 2, 1, 7), loose(4, 3, 1, 1, 8), loose(0, 1, 2, 2, 9), loose(2, 1, 0, -1, 10), loose(1, 2, 2, 9, 11),
	}
	var walk func(l []api.Tail)
	walk = func(l []api.Tail) {
		wantChoose(t, l)
		if len(l) == 4 {
			return
		}
		for _, x := range some {
			walk(append(l[:len(l):len(l)], x))
		}
	}
	walk(nil)
}

func TestChooseAsksNotWhatIsRight(t *testing.T) {
	for _, x := range wrongTails() {
		wantChoose(t, []api.Tail{x, tail(1, 5, 9, 3), tail(2, 5, 10, 3)})
		wantChoose(t, []api.Tail{tail(3, 5, 9, 3), x})
	}
}
