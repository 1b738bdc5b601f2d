package tails_test

import (
	"testing"

	"estreat/api"
	"estreat/keep"
	"estreat/tails"
)

// wantCheck holds Check against the words, and these against what is meant.
func wantCheck(t *testing.T, name string, x api.Tail, right bool) {
	t.Helper()
	if tailIsRight(x) != right {
		t.Fatalf("%s is meant to be right: %v; by the words it is not so: %s", name, right, brief(x))
	}
	wantChecked(t, name, x)
}

// wantChecked holds Check against the words.
func wantChecked(t *testing.T, name string, x api.Tail) {
	t.Helper()
	want := api.ErrTailsForm
	if tailIsRight(x) {
		want = api.OK
	}
	if e := tails.Check(x); e != want {
		t.Errorf("P16.1: Check of %s is %d, want %d: %s", name, e, want, brief(x))
	}
}

func TestCheckOfRightTails(t *testing.T) {
	for name, x := range rightTails() {
		wantCheck(t, name, x, true)
	}
}

func TestCheckOfWrongTails(t *testing.T) {
	for name, x := range wrongTails() {
		wantCheck(t, name, x, false)
	}
}

func TestCheckOfNodes(t *testing.T) {
	for _, n := range among(farOff, 0, 1, 2, 3, 4, 5, 6, 257, 258) {
		wantCheck(t, "a Node", tail(n, 5, 20, 7), n == 1 || n == 2 || n == 3)
		wantCheck(t, "a Node without items", api.Tail{Node: n, Log: 1}, n == 1 || n == 2 || n == 3)
	}
}

func TestCheckOfLogs(t *testing.T) {
	for _, n := range among(farOff, 0, 1, 2, 5, 899999999, 900000000) {
		right := n >= 1 && n <= 900000000
		wantCheck(t, "a Log without items", api.Tail{Node: 1, Log: n}, n == 1)
		wantCheck(t, "a Log with its opening", api.Tail{Node: 1, Log: n, Items: []api.Item{opening(n, 2)}}, right)
		wantCheck(t, "a Log of old items", api.Tail{Node: 1, Log: n, Items: []api.Item{user(1, 1, 1)}}, n == 1)
		wantCheck(t, "a Log of items of epoch 5", tail(1, 5, 20, 0), true)
		wantCheck(t, "a Log beside items of epoch 5", changed(tail(1, 5, 20, 0), func(t *api.Tail) { t.Log = n }), n == 5)
	}
}

func TestCheckOfCommits(t *testing.T) {
	for _, size := range []int{0, 1, 2, 20, 2000} {
		for _, n := range among(farOff, 0, 1, 2, 3, size-1, size, size+1, 2*size) {
			wantCheck(t, "a Commit", tail(2, 1, size, n), n >= 0 && n <= size)
		}
	}
}

func TestCheckOfItems(t *testing.T) {
	for _, size := range []int{1, 2, 3, 1999, 2000, 2001, 2002} {
		wantCheck(t, "so many items", tail(1, 5, size, 0), size <= 2000)
		wantCheck(t, "so many items of Log 1", tail(1, 1, size, 0), size <= 2000)
	}
	for at := range 21 {
		for _, epoch := range []int{1, 4, 5, 6} {
			l := opened(20, 5)
			x := api.Tail{Node: 1, Log: 5, Items: behind(l[:at], behind([]api.Item{user(epoch, 1, 90000)}, l[at:]...)...)}
			wantChecked(t, "an item of some epoch at some place", x)
		}
	}
}

// A claim of Log, in an item of Log: all of it, wherever it stands, whoever's it is.
func TestCheckOfOpenings(t *testing.T) {
	for of := 1; of <= 7; of++ {
		for epoch := 1; epoch <= 7; epoch++ {
			for node := 1; node <= 3; node++ {
				x := api.Tail{Node: 1, Log: 5, Items: []api.Item{claimed(epoch, of, node)}}
				wantCheck(t, "a claim alone", x, epoch == 5 && of == 5)
				x.Items = behind([]api.Item{user(1, 1, 1), claimed(4, 5, node)}, claimed(epoch, of, node))
				wantChecked(t, "a claim behind others", x)
			}
		}
	}
}

// What Check tells is what package keep tells of the same Log and Items.
func TestCheckGoesAlongWithKeep(t *testing.T) {
	hold := func(name string, x api.Tail) {
		kept := keep.Check(api.Kept{Epoch: x.Log, Log: x.Log, Items: x.Items}) == api.OK
		x.Node, x.Commit = 1, 0
		if right := tails.Check(x) == api.OK; right != kept {
			t.Errorf("P16.1: Check of %s is right: %v; for package keep: %v: %s", name, right, kept, brief(x))
		}
	}
	for name, x := range rightTails() {
		hold(name, x)
	}
	for name, x := range wrongTails() {
		hold(name, x)
	}
}
