package path_test

import (
	"fmt"
	"slices"
	"testing"

	"estreat/api"
	"estreat/path"
)

// wantMake holds Make against what is meant and against the words, and what is made against Verify.
func wantMake(t *testing.T, what string, l []api.Item, i int, s api.Signed, want api.Errno) {
	t.Helper()
	model, e := made(l, i, s)
	if e != want {
		t.Fatalf("%s: Make(%s, %d, %+v) is meant to be %d, but by the words is %d", what, brief(l), i, s, want, e)
	}
	got, e := path.Make(l, i, s)
	if e != want {
		t.Errorf("P14.1: %s: Make(%s, %d, %+v) is %d; want %d", what, brief(l), i, s, e, want)
		return
	}
	if !same(got, model) {
		t.Errorf("P14.1: %s: Make(%s, %d, %+v) is %s; want %s", what, brief(l), i, s, brief(got), brief(model))
	}
	if want != api.OK {
		if got.Index != 0 || got.Item != (api.Item{}) || len(got.Proof) != 0 || got.Head != (api.Signed{}) {
			t.Errorf("R1: %s: with an error Make has told %s", what, brief(got))
		}
		return
	}
	if e, f := path.Verify(master, []api.Step{got}), verified(master, s); e != f {
		t.Errorf("P14.3: %s: the step that was made is verified by %d; want %d", what, e, f)
	}
}

func TestMakeOfTheChapter(t *testing.T) {
	l := []api.Item{user(1, 1)}
	s := signedOf(l, 1)
	wantMake(t, "the only item", l, 0, s, api.OK)
	wantMake(t, "behind the only item", l, 1, s, api.ErrPathNone)
	for _, none := range [][]api.Item{nil, {}} {
		wantMake(t, "of no log", none, 0, s, api.ErrPathForm)
	}
}

// Heads of the whole log, of each part of it, and of no item; each place, and those beside.
func TestMakeOfEachPlaceOfEachHead(t *testing.T) {
	for _, length := range []int{0, 1, 2, 3, 4, 5, 7, 8, 9, 16, 17, 33} {
		l := filled(length)
		for size := range length + 1 {
			s := signedOf(l, size)
			for i := range size {
				wantMake(t, fmt.Sprintf("%d of %d of %d", i, size, length), l, i, s, api.OK)
			}
			for _, i := range append(slices.Clone(farOff), size, size+1, length, length+1) {
				wantMake(t, fmt.Sprintf("%d of %d of %d", i, size, length), l, i, s, api.ErrPathNone)
			}
		}
	}
}

func TestMakeOfLongLogs(t *testing.T) {
	l := filled(2000)
	for _, size := range []int{1, 2, 1023, 1024, 1025, 1999, 2000} {
		s := signedOf(l, size)
		for _, i := range []int{0, size / 2, size - 1} {
			wantMake(t, "a long log", l, i, s, api.OK)
		}
		for _, i := range []int{-1, size, 2000, 2001} {
			wantMake(t, "a long log", l, i, s, api.ErrPathNone)
		}
	}
}

// The proof is that of the head's Size, whatever the log has behind it.
func TestMakeHangsOnTheHeadsItemsAlone(t *testing.T) {
	short := filled(6)
	s := signedOf(short, 6)
	for i := range 6 {
		one, _ := path.Make(short, i, s)
		for _, l := range [][]api.Item{behind(short, user(1, 90)), behind(short, claim(9), anchor(9, strange)), filled(2000)} {
			if other, e := path.Make(l, i, s); e != api.OK || !same(one, other) {
				t.Errorf("P14.1: Make of a longer log is %s, %d; want %s", brief(other), e, brief(one))
			}
		}
	}
}

// What makes a log a right one is asked of all of it, also of what stands behind the head's Size.
func TestMakeOfWrongLogs(t *testing.T) {
	for what, l := range wrongLogs() {
		for _, size := range []int{0, 1, 4, 5} {
			for _, i := range []int{-1, 0, size - 1, size} {
				wantMake(t, what, l, i, signedOf(l, size), api.ErrPathForm)
			}
		}
	}
}

func TestMakeOfHeadsOfAGreaterSize(t *testing.T) {
	l := filled(9)
	for length := range 9 {
		for size := length + 1; size <= 9; size++ {
			for _, i := range []int{-1, 0, length - 1, length, size - 1, size} {
				wantMake(t, "a head of more", l[:length], i, signedOf(l, size), api.ErrPathForm)
				// The root is that of the log, but the Size is not.
				h := headOf(l, length)
				h.Size = size
				wantMake(t, "a head that says so", l[:length], i, signed(master, h, 1), api.ErrPathForm)
			}
		}
		for _, size := range []int{1999, 2000, 2001, 100000} {
			h := headOf(l, length)
			h.Size = size
			wantMake(t, "a head of many", l[:length], 0, signed(master, h, 1), api.ErrPathForm)
		}
	}
}

func TestMakeOfHeadsOfAnotherRoot(t *testing.T) {
	for _, length := range []int{0, 1, 2, 5, 8} {
		l := filled(length)
		for size := range length + 1 {
			h := headOf(l, size)
			roots := []api.Digest{{}, rising(1)}
			for bit := range 256 {
				roots = append(roots, turned(h.Root, bit))
			}
			for other := range length + 1 {
				if other != size {
					roots = append(roots, headOf(l, other).Root)
				}
			}
			for k, root := range roots {
				h.Root = root
				for _, i := range []int{-1, 0, size} {
					wantMake(t, fmt.Sprintf("root %d of size %d", k, size), l, i, signed(master, h, 1), api.ErrPathForm)
				}
			}
		}
	}
}

// Of a log of other items the roots are others: whatever about an item is another.
func TestMakeOfHeadsOfAnotherLog(t *testing.T) {
	l := filled(7)
	for at := range l {
		other := slices.Clone(l)
		other[at] = user(1, 77)
		for size := range 8 {
			want := api.ErrPathForm
			if at >= size {
				want = api.OK
			}
			for i := range size {
				wantMake(t, "a head of another log", l, i, signedOf(other, size), want)
			}
		}
	}
	swapped := slices.Clone(l)
	swapped[2], swapped[5] = l[5], l[2]
	wantMake(t, "a head of another order", l, 0, signedOf(swapped, 7), api.ErrPathForm)
}

func TestMakeOfHeadsThatMayNotBe(t *testing.T) {
	for _, size := range []int{0, 1, 5} {
		l := filled(5)
		for _, s := range wrongHeads(headOf(l, size)) {
			for _, i := range []int{-1, 0, size} {
				wantMake(t, "a wrong head", l, i, s, api.ErrPathForm)
			}
		}
	}
}

// Right heads at the edges of what may be.
func TestMakeOfHeadsAtTheEdges(t *testing.T) {
	l := filled(5)
	for _, region := range []int{1, 5} {
		for _, epoch := range []int{1, 900000000} {
			for _, tick := range []int{0, 900000000} {
				for node := 1; node <= 3; node++ {
					h := headOf(l, 4)
					h.Region, h.Epoch, h.Tick = region, epoch, tick
					wantMake(t, "an edge", l, 2, signed(master, h, node), api.OK)
				}
			}
		}
	}
}

// Whoever signed it, and whether anybody did: Make has no key.
func TestMakeOfAnyTag(t *testing.T) {
	l := filled(6)
	s := signedOf(l, 5)
	for node := 1; node <= 3; node++ {
		for _, tag := range []api.Digest{{}, rising(1), turned(s.Tag, 0), signed(another, s.Head, node).Tag, signed(master, s.Head, 1+node%3).Tag, s.Head.Root} {
			for _, i := range []int{0, 4} {
				wantMake(t, "any tag", l, i, api.Signed{Head: s.Head, Node: node, Tag: tag}, api.OK)
			}
			wantMake(t, "any tag", l, 5, api.Signed{Head: s.Head, Node: node, Tag: tag}, api.ErrPathNone)
		}
	}
}

// Each choice of what may be wrong: a place that there is not is told only where nothing else is wrong.
func TestMakeTellsTheFirstError(t *testing.T) {
	for wrong := range 1 << 5 {
		has := func(bit int) bool { return wrong>>bit&1 == 1 }
		l, i, want := filled(6), 3, api.OK
		s := signedOf(l, 5)
		if has(4) {
			i, want = 5, api.ErrPathNone
		}
		if has(3) {
			s.Node, want = 4, api.ErrPathForm
		}
		if has(2) {
			s.Head.Root, want = turned(s.Head.Root, 9), api.ErrPathForm
		}
		if has(1) {
			s.Head.Size, want = 7, api.ErrPathForm
		}
		if has(0) {
			l, want = append(l[:5], api.Item{}), api.ErrPathForm
		}
		wantMake(t, fmt.Sprintf("wrong by %b", wrong), l, i, s, want)
	}
}
