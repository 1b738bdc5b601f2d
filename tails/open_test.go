package tails_test

import (
	"slices"
	"testing"

	"estreat/api"
	"estreat/tails"
)

// wantOpen holds Open against the words.
func wantOpen(t *testing.T, name string, x api.Tail, c api.Claim) {
	t.Helper()
	got, want := tails.Open(x, c), openedBy(x, c)
	if !slices.Equal(got, want) {
		t.Errorf("P16.3: Open of %s is %s; want %s; of %s; %s", name, brief(got), brief(want), brief(x), short(c))
	}
	n := len(x.Items)
	if len(got) != n+1 {
		t.Fatalf("P16.3: Open of %s has %d items, of %d", name, len(got), n)
	}
	last := got[n]
	rest := last
	rest.Epoch, rest.Entry.Kind, rest.Entry.Claim = 0, 0, api.Claim{}
	if last.Epoch != c.Epoch || last.Entry.Kind != api.EntryClaim || last.Entry.Claim != c || rest != (api.Item{}) {
		t.Errorf("P16.3: Open of %s has last %s; of %s", name, short(last), short(c))
	}
}

// someClaims are right.
func someClaims() []api.Claim {
	return []api.Claim{
		{Region: 1, Epoch: 1, Node: 1}, {Region: 5, Epoch: 900000000, Node: 3, Size: 100000, Root: rising(224)},
		{Region: 2, Epoch: 7, Node: 2, Size: 20, Root: rising(9)}, {Region: 3, Epoch: 5, Node: 1}, {Region: 3, Epoch: 4, Node: 1},
	}
}

// wrongClaims are right but for one thing.
func wrongClaims() []api.Claim {
	l := []api.Claim{{}, {Root: rising(1)}}
	c := api.Claim{Region: 2, Epoch: 7, Node: 2, Size: 20, Root: rising(9)}
	for _, n := range farOff {
		for _, at := range []func(*api.Claim) *int{
			func(c *api.Claim) *int { return &c.Region },
			func(c *api.Claim) *int { return &c.Epoch },
			func(c *api.Claim) *int { return &c.Node },
			func(c *api.Claim) *int { return &c.Size },
		} {
			l = append(l, changed(c, func(c *api.Claim) { *at(c) = n }))
		}
	}
	return l
}

func TestOpenOfRightTails(t *testing.T) {
	for name, x := range rightTails() {
		for _, c := range slices.Concat(someClaims(), wrongClaims()) {
			wantOpen(t, name, x, c)
		}
	}
}

// Whatever the tail and the claim are: Open asks nothing of them.
func TestOpenOfWrongTails(t *testing.T) {
	for name, x := range wrongTails() {
		wantOpen(t, name, x, someClaims()[2])
		wantOpen(t, name, x, api.Claim{})
		wantOpen(t, name, x, wrongClaims()[3])
	}
}

// The Node, Log and Commit of a tail play no part in what it makes.
func TestOpenOfItemsAlone(t *testing.T) {
	c := someClaims()[2]
	want := openedBy(tail(1, 5, 20, 0), c)
	for _, m := range among(farOff, 0, 1, 4, 20) {
		for _, x := range []api.Tail{tail(m, 5, 20, 0), tail(1, 5, 20, m), changed(tail(1, 5, 20, 0), func(t *api.Tail) { t.Log = m })} {
			if got := tails.Open(x, c); !slices.Equal(got, want) {
				t.Errorf("P16.3: Open is %s; of %s", brief(got), brief(x))
			}
		}
	}
}
