package tails_test

import (
	"slices"
	"testing"

	"estreat/api"
	"estreat/entry"
	"estreat/history"
	"estreat/sha"
	"estreat/tails"
)

// wantClaim holds Claim against an error that is told, and against the words.
func wantClaim(t *testing.T, name string, region, epoch, node int, x api.Tail, err api.Errno) {
	t.Helper()
	if _, e := claimOf(region, epoch, node, x); e != err {
		t.Fatalf("Claim of %s is meant to be %d, but by the words is %d", name, err, e)
	}
	wantClaimed(t, name, region, epoch, node, x)
}

// wantClaimed holds Claim against the words.
func wantClaimed(t *testing.T, name string, region, epoch, node int, x api.Tail) api.Claim {
	t.Helper()
	c, e := tails.Claim(region, epoch, node, x)
	want, err := claimOf(region, epoch, node, x)
	if c != want || e != err {
		t.Errorf("P16.3: Claim of %s is %s, %d; want %s, %d; of %d, %d, %d; %s", name, short(c), e, short(want), err, region, epoch, node, brief(x))
	}
	if e != api.OK && c != (api.Claim{}) {
		t.Errorf("R1: Claim of %s is %d, and %s", name, e, short(c))
	}
	if e == api.OK && entry.CheckClaim(c) != api.OK {
		t.Errorf("P16.3: Claim of %s is no right one: %s", name, short(c))
	}
	return c
}

func TestClaimOfTheChapter(t *testing.T) {
	c, e := tails.Claim(2, 3, 1, first(1, 0))
	if want := (api.Claim{Region: 2, Epoch: 3, Node: 1, Root: sha.Empty()}); c != want || e != api.OK {
		t.Errorf("P16.3: Claim is %+v, %d", c, e)
	}
	if s := sha.Hex(c.Root); s != "e3b0c44298fc1c149afbf4c8996fb92427ae41e4649b934ca495991b7852b855" {
		t.Errorf("P16.3: the root of no items is %s", s)
	}
}

func TestClaimOfRegions(t *testing.T) {
	for _, n := range among(farOff, 0, 1, 2, 3, 4, 5, 6, 7, 257) {
		want := api.ErrTailsForm
		if n >= 1 && n <= 5 {
			want = api.OK
		}
		wantClaim(t, "a region", n, 7, 2, tail(1, 5, 9, 3), want)
		wantClaim(t, "a region, without items", n, 7, 2, first(1, 0), want)
	}
}

func TestClaimOfEpochs(t *testing.T) {
	// Nothing is said of Log and the claim's epoch: below it, at it and above it are all claims.
	for _, n := range among(farOff, 0, 1, 2, 4, 5, 6, 899999999, 900000000) {
		want := api.ErrTailsForm
		if n >= 1 && n <= 900000000 {
			want = api.OK
		}
		wantClaim(t, "an epoch", 3, n, 2, tail(1, 5, 9, 3), want)
		wantClaim(t, "an epoch, without items", 3, n, 2, first(1, 0), want)
		wantClaim(t, "an epoch, the last Log", 3, n, 2, tail(1, 900000000, 9, 3), want)
	}
}

func TestClaimOfNodes(t *testing.T) {
	for _, n := range among(farOff, 0, 1, 2, 3, 4, 5, 257) {
		want := api.ErrTailsForm
		if n >= 1 && n <= 3 {
			want = api.OK
		}
		for node := 1; node <= 3; node++ {
			wantClaim(t, "a node", 3, 7, n, tail(node, 5, 9, 3), want)
		}
		wantClaim(t, "a node, without items", 3, 7, n, first(1, 0), want)
	}
}

func TestClaimOfRightTails(t *testing.T) {
	for name, x := range rightTails() {
		for _, epoch := range []int{1, 7, 900000000} {
			wantClaim(t, name, 3, epoch, 2, x, api.OK)
		}
	}
}

func TestClaimOfWrongTails(t *testing.T) {
	for name, x := range wrongTails() {
		wantClaim(t, name, 3, 7, 2, x, api.ErrTailsForm)
		wantClaim(t, name+", and a wrong claim", 6, 7, 2, x, api.ErrTailsForm)
	}
}

// The root is that of all items, whatever the Commit, the Node and the Log of the tail are.
func TestClaimOfAllItems(t *testing.T) {
	l := opened(70, 5)
	for n := 24; n <= 70; n++ {
		roots := make(map[api.Digest]int)
		for node := 1; node <= 3; node++ {
			for _, commit := range []int{0, 1, n - 1, n} {
				x := api.Tail{Node: node, Log: 5, Commit: commit, Items: l[:n]}
				c := wantClaimed(t, "a beginning", 4, 9, 1, x)
				root, e := history.Root(x.Items, n)
				if c.Size != n || c.Root != root || e != api.OK {
					t.Errorf("P16.3: Claim of %d items is %s; their root is %x, %d", n, short(c), root, e)
				}
				roots[c.Root] = n
			}
		}
		if len(roots) != 1 {
			t.Errorf("P16.3: Claims of the same %d items have %d roots", n, len(roots))
		}
	}
}

// A change of any item changes the root.
func TestClaimTellsItemsApart(t *testing.T) {
	x := tail(2, 5, 20, 0)
	was := wantClaimed(t, "as it was", 3, 7, 1, x)
	for i := range x.Items {
		y := x
		y.Items = with(x.Items, i, text(x.Items[i].Epoch, 2, 5, "another"))
		if i == slices.Index(x.Items, opening(5, 2)) {
			y.Items = with(x.Items, i, opening(5, 3))
		}
		c := wantClaimed(t, "a change", 3, 7, 1, y)
		if c.Root == was.Root || c.Size != was.Size {
			t.Errorf("P16.3: Claim is the same with another item at %d", i)
		}
	}
}
