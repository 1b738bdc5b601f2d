package path_test

import (
	"slices"
	"testing"

	"estreat/api"
	"estreat/path"
)

func wantEnds(t *testing.T, what string, p []api.Step) {
	t.Helper()
	var x api.Item
	var s api.Signed
	want := api.ErrPathForm
	if len(p) > 0 && len(p) < 6 {
		x, s, want = p[0].Item, p[len(p)-1].Head, api.OK
	}
	gotItem, gotHead, e := path.Ends(p)
	if gotItem != x || gotHead != s || e != want {
		t.Errorf("P14.2: %s: Ends(%s) is %+v, %+v, %d; want %+v, %+v, %d", what, brief(p), gotItem, gotHead, e, x, s, want)
	}
}

func TestEndsOfChains(t *testing.T) {
	for n := range 12 {
		wantEnds(t, "a chain", chain(n, nil))
	}
	wantEnds(t, "no step", nil)
	wantEnds(t, "no step", []api.Step{})
	wantEnds(t, "very many steps", slices.Repeat(chain(5, nil), 1<<12))
}

func TestEndsAreThoseOfThePath(t *testing.T) {
	p := chain(3, nil)
	x, s, e := path.Ends(p)
	if x != user(2, 90) || s.Head.Region != 3 || s != p[2].Head || e != api.OK {
		t.Errorf("P14.2: Ends of three steps is %+v, %+v, %d", x, s, e)
	}
	if x, s, e := path.Ends(p[1:2]); x != anchor(2, p[0].Head) || s != p[1].Head || e != api.OK {
		t.Errorf("P14.2: Ends of one step is %+v, %+v, %d", x, s, e)
	}
}

// Ends has no key, and asks of no step whether it is right.
func TestEndsOfWrongSteps(t *testing.T) {
	for n := 1; n <= 6; n++ {
		wantEnds(t, "zero steps", make([]api.Step, n))
		for at := range n {
			for _, b := range allBends() {
				wantEnds(t, b.what, alone(n, at, b))
			}
		}
	}
}
