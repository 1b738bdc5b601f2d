package path_test

import (
	"fmt"
	"slices"
	"testing"

	"estreat/api"
	"estreat/check"
	"estreat/entry"
	"estreat/head"
	"estreat/history"
	"estreat/path"
)

// headUp is the head of a region's log up to n, as the layers below tell and sign it.
func headUp(t *testing.T, l []api.Item, n, region int) api.Signed {
	t.Helper()
	h, e := history.Head(l, n, region, 3, n)
	if e != api.OK {
		t.Fatalf("P11.3: Head up to %d is %d", n, e)
	}
	s, e := head.Sign(master, h, 1+n%3)
	if e != api.OK {
		t.Fatalf("P7.2: Sign of %+v is %d", h, e)
	}
	return s
}

func makeStep(t *testing.T, l []api.Item, i int, s api.Signed) api.Step {
	t.Helper()
	step, e := path.Make(l, i, s)
	if e != api.OK {
		t.Fatalf("P14.1: Make of %d of the first %d items is %d", i, s.Head.Size, e)
	}
	return step
}

func TestAStepOfALogIsVerified(t *testing.T) {
	l := filled(40)
	for size := 1; size <= 40; size++ {
		s := headUp(t, l, size, 1+size%5)
		for i := range size {
			step := makeStep(t, l, i, s)
			wantVerify(t, "a step that was made", []api.Step{step}, api.OK)
			if x, last, _ := path.Ends([]api.Step{step}); x != l[i] || last != s {
				t.Errorf("P14.3: the step from %d to the head of %d is one from %+v to %+v", i, size, x, last)
			}
		}
	}
	full := filled(2000)
	s := headUp(t, full, 2000, 5)
	for _, i := range []int{0, 1, 999, 1023, 1024, 1998, 1999} {
		wantVerify(t, "a step of a full log", []api.Step{makeStep(t, full, i, s)}, api.OK)
	}
}

// By every anchor of a log that grows, each item of the other log has a path, as soon as the anchor's head has it.
func TestPathsOverEachAnchor(t *testing.T) {
	of := filled(17)
	var l []api.Item
	for size := range 18 {
		l = append(l, user(1, 1+size), anchor(1, headUp(t, of, size, 1)))
	}
	for size := range 18 {
		for _, whole := range []int{2*size + 2, len(l)} {
			second := makeStep(t, l, 2*size+1, headUp(t, l, whole, 2))
			for i := range size {
				first := makeStep(t, of, i, headUp(t, of, size, 1))
				wantVerify(t, fmt.Sprintf("%d over the anchor of %d", i, size), []api.Step{first, second}, api.OK)
			}
		}
	}
}

// Logs of five regions that anchor one another, each the one ahead: paths over one anchor and over four.
func TestPathsOverManyAnchors(t *testing.T) {
	for lead := range 9 {
		var p []api.Step
		for k := range 5 {
			l := filled(lead + 2*k)
			at := len(l)
			if k == 0 {
				l = append(l, user(1, 500))
			} else {
				l = append(l, anchor(1, p[k-1].Head))
			}
			l = behind(l, filled(lead)...)
			p = append(p, makeStep(t, l, at, headUp(t, l, len(l)-lead/2, k+1)))
			wantVerify(t, fmt.Sprintf("over %d anchors", k), p, api.OK)
			if x, s, e := path.Ends(p); x != user(1, 500) || s != p[k].Head || s.Head.Region != k+1 || e != api.OK {
				t.Errorf("P14.2: the ends of a path over %d anchors are %+v, %+v, %d", k, x, s, e)
			}
		}
	}
}

// A path may come back to a log that it went through, by a later head of it.
func TestPathsThatComeBack(t *testing.T) {
	var logs [2][]api.Item
	logs[0] = filled(3)
	p := []api.Step{makeStep(t, logs[0], 1, headUp(t, logs[0], 3, 1))}
	for k := 1; k < 5; k++ {
		l := append(logs[k%2], anchor(1, p[k-1].Head))
		logs[k%2] = l
		p = append(p, makeStep(t, l, len(l)-1, headUp(t, l, len(l), 1+k%2)))
		wantVerify(t, "a path that comes back", p, api.OK)
	}
}

// A step with a head that nobody signed is made, and is not verified.
func TestAStepOfAnUnsignedHeadIsRefused(t *testing.T) {
	l := filled(6)
	s := headUp(t, l, 6, 1)
	for _, bad := range strangeTags(s) {
		if step, e := path.Make(l, 2, bad); e == api.OK {
			wantVerify(t, "a head that nobody signed", []api.Step{step}, api.ErrHeadTag)
		}
	}
	if e := path.Verify(another, []api.Step{makeStep(t, l, 2, s)}); e != api.ErrHeadTag {
		t.Errorf("P14.2: a step by another key is %d", e)
	}
}

// Of one head and one place, one item alone is verified: of two there would be two unlike texts with one sum.
func TestUnlikeItemsAreNotBothVerified(t *testing.T) {
	l := filled(9)
	for size := 1; size <= 9; size++ {
		s := headUp(t, l, size, 1)
		for i := range size {
			one := makeStep(t, l, i, s)
			for k := range size {
				other := makeStep(t, l, k, s)
				for _, proof := range [][]api.Digest{one.Proof, other.Proof} {
					step := api.Step{Index: i, Item: other.Item, Proof: proof, Head: s}
					verified := path.Verify(master, []api.Step{step}) == api.OK
					if verified != (k == i) {
						t.Errorf("P14.3: %d as the place of %d of %d is verified: %v", i, k, size, verified)
					}
					wantClash(t, one, step, false)
				}
			}
		}
	}
}

// wantClash holds two steps of one head and one place against check.Clash.
func wantClash(t *testing.T, one, other api.Step, want bool) {
	t.Helper()
	a, e := entry.Leaf(one.Item)
	b, f := entry.Leaf(other.Item)
	if e != api.OK || f != api.OK {
		t.Fatalf("P8.3: Leaf is %d, %d", e, f)
	}
	h := one.Head.Head
	x, y, ok := check.Clash(h.Root, h.Size, one.Index, a, one.Proof, b, other.Proof)
	if ok != want || ok && x == y {
		t.Errorf("P14.3: Clash of %s and %s is %q, %q, %v", brief(one), brief(other), x, y, ok)
	}
}

// A path that is verified is one of what lies there: of any other steps that are found by changing it, none is.
func TestWhatIsVerifiedLiesThere(t *testing.T) {
	p := chain(3, nil)
	q := chain(3, map[int][]bend{0: {{lay: func(api.Item) api.Item { return user(2, 66) }}}})
	for mask := range 1 << 9 {
		var mixed []api.Step
		for k := range 3 {
			s, other := p[k], q[k]
			if mask>>(3*k)&1 == 1 {
				s.Item = other.Item
			}
			if mask>>(3*k+1)&1 == 1 {
				s.Proof = other.Proof
			}
			if mask>>(3*k+2)&1 == 1 {
				s.Head = other.Head
			}
			mixed = append(mixed, s)
		}
		lies := slices.EqualFunc(mixed, p, same) || slices.EqualFunc(mixed, q, same)
		want := walked(master, mixed)
		// The logs of the two are the same beside what is anchored, so the proofs of one are those of the other.
		if (want == api.OK) != lies {
			t.Fatalf("mixed by %b is %d by the words", mask, want)
		}
		wantVerify(t, fmt.Sprintf("mixed by %b", mask), mixed, want)
	}
}
