package path_test

import (
	"fmt"
	"slices"
	"testing"

	"estreat/api"
	"estreat/path"
)

// wantVerify holds Verify against what is meant and against the words, and Ends against the words.
func wantVerify(t *testing.T, what string, p []api.Step, want api.Errno) {
	t.Helper()
	if model := walked(master, p); model != want {
		t.Fatalf("%s: Verify(%s) is meant to be %d, but by the words is %d", what, brief(p), want, model)
	}
	if e := path.Verify(master, p); e != want {
		t.Errorf("P14.2: %s: Verify(%s) is %d; want %d", what, brief(p), e, want)
	}
	wantEnds(t, what, p)
	if want == api.OK {
		wantParts(t, what, p)
	}
}

// wantParts: each beginning and each end of a path that is verified is one.
func wantParts(t *testing.T, what string, p []api.Step) {
	t.Helper()
	for i := range p {
		for j := i + 1; j <= len(p); j++ {
			if e := path.Verify(master, p[i:j]); e != api.OK {
				t.Errorf("P14.3: %s: of a path that is verified, the steps from %d up to %d are not: %d", what, i, j, e)
			}
		}
	}
}

func TestVerifyOfTheChapter(t *testing.T) {
	s := stepOf([]api.Item{user(1, 1)}, 0, 1)
	wantVerify(t, "the only item", []api.Step{s}, api.OK)
	wantVerify(t, "no step", nil, api.ErrPathForm)
	wantVerify(t, "no step", []api.Step{}, api.ErrPathForm)
	wantVerify(t, "the same step twice", []api.Step{s, s}, api.ErrPathForm)
}

func TestVerifyOfChains(t *testing.T) {
	for n := 1; n <= 5; n++ {
		wantVerify(t, fmt.Sprintf("%d steps", n), chain(n, nil), api.OK)
	}
	// All of these steps are right, each behind the one ahead; there are too many.
	for _, n := range []int{6, 7, 10, 100} {
		p := chain(n, nil)
		wantVerify(t, fmt.Sprintf("%d steps", n), p, api.ErrPathForm)
		wantVerify(t, "the first 5", p[:5], api.OK)
		wantVerify(t, "the last 5", p[n-5:], api.OK)
	}
}

func TestVerifyOfEachPlaceOfALog(t *testing.T) {
	l := filled(33)
	for size := 1; size <= 33; size++ {
		for i := range size {
			wantVerify(t, fmt.Sprintf("%d of %d", i, size), []api.Step{stepOf(l, i, size)}, api.OK)
		}
	}
}

// Each right item stands where it stands, whatever it is: the first step's need be no anchor, and may be one.
func TestVerifyOfAnyFirstItem(t *testing.T) {
	for _, x := range []api.Item{user(1, 1), user(900000000, 1000000), claim(5), anchor(5, strange), anchor(5, signedOf(filled(3), 3))} {
		for n := 1; n <= 5; n++ {
			lay := bend{lay: func(api.Item) api.Item { return x }}
			wantVerify(t, "any first item", chain(n, map[int][]bend{0: {lay}}), api.OK)
		}
	}
}

// Each thing that may be wrong with a step, alone: in the first place, in the midst and in the last one.
func TestVerifyOfOneWrongStep(t *testing.T) {
	for n := 1; n <= 5; n++ {
		for at := range n {
			for _, b := range allBends() {
				// Of the first step no anchor is asked for.
				if b.rank != noAnchor || at > 0 {
					wantVerify(t, fmt.Sprintf("%s at %d of %d", b.what, at, n), alone(n, at, b), b.want)
				}
			}
		}
	}
}

// Of too many steps the first thing that is wrong is that there are too many.
func TestVerifyOfWrongStepsOfTooMany(t *testing.T) {
	for _, b := range few() {
		for at := 1; at < 6; at++ {
			wantVerify(t, b.what, alone(6, at, b), api.ErrPathForm)
		}
	}
}

// Each choice of what may be wrong with one step: the answer is what the promise names first.
func TestVerifyTellsTheFirstErrorOfAStep(t *testing.T) {
	for n := 1; n <= 5; n++ {
		for at := range n {
			for wrong := range 1 << ranks {
				var bends []bend
				want := api.OK
				for _, b := range slices.Backward(few()) {
					if wrong>>b.rank&1 == 0 || b.rank == noAnchor && at == 0 {
						continue
					}
					bends, want = append(bends, b), b.want
				}
				wantVerify(t, fmt.Sprintf("wrong by %b at %d of %d", wrong, at, n), chain(n, map[int][]bend{at: bends}), want)
			}
		}
	}
}

// Any two things that are wrong with one step, the one of the lower rank first and last.
func TestVerifyTellsTheFirstOfTwoErrors(t *testing.T) {
	l := allBends()
	for _, a := range few() {
		for _, b := range l {
			if a.rank == b.rank || a.lay != nil && b.lay != nil {
				continue
			}
			want := a.want
			if b.rank < a.rank {
				want = b.want
			}
			for at := 1; at < 3; at++ {
				what := fmt.Sprintf("%s and %s at %d", a.what, b.what, at)
				if a.rank == proofRoot && len(alone(3, at, b)[at].Proof) == 0 {
					continue
				}
				wantVerify(t, what, chain(3, map[int][]bend{at: {b, a}}), want)
			}
		}
	}
}

// Two steps that are wrong: what is wrong with the first of them is told, however early its error is named.
func TestVerifyTellsTheFirstWrongStep(t *testing.T) {
	for _, n := range []int{2, 3, 5} {
		for i := range n {
			for j := i + 1; j < n; j++ {
				for _, a := range few() {
					for _, b := range few() {
						if a.rank == noAnchor && i == 0 {
							continue
						}
						what := fmt.Sprintf("%s at %d and %s at %d of %d", a.what, i, b.what, j, n)
						wantVerify(t, what, chain(n, map[int][]bend{i: {a}, j: {b}}), a.want)
					}
				}
			}
		}
	}
}

// Steps that are all right by themselves, in another order, some left out or some twice.
func TestVerifyOfStepsInAnotherOrder(t *testing.T) {
	all := chain(5, nil)
	var row []int
	var try func()
	try = func() {
		if len(row) > 0 {
			var p []api.Step
			want := api.OK
			for i, k := range row {
				p = append(p, all[k])
				if i > 0 && k != row[i-1]+1 {
					want = api.ErrPathForm
				}
			}
			wantVerify(t, fmt.Sprint("the steps ", row), p, want)
		}
		if len(row) == 4 {
			return
		}
		for k := range all {
			row = append(row, k)
			try()
			row = row[:len(row)-1]
		}
	}
	try()
}

// An anchor two steps ahead, or that of the step behind, does not do.
func TestVerifyOfAnAnchorOfAnotherStep(t *testing.T) {
	p := chain(4, nil)
	for at := 1; at < 4; at++ {
		for k, s := range p {
			if k == at-1 {
				continue
			}
			lay := bend{lay: func(api.Item) api.Item { return anchor(2, s.Head) }}
			wantVerify(t, fmt.Sprintf("at %d an anchor of %d", at, k), chain(4, map[int][]bend{at: {lay}}), api.ErrPathForm)
		}
	}
}

// A log that has many anchors of heads of one region: the one of the head ahead does, and no other.
func TestVerifyOfOneOfManyAnchors(t *testing.T) {
	of := filled(9)
	l := filled(3)
	for size := 1; size <= 9; size++ {
		l = append(l, anchor(1, signedOf(of, size)))
	}
	for size := 1; size <= 9; size++ {
		for i := range l {
			want := api.ErrPathForm
			if i == 2+size {
				want = api.OK
			}
			wantVerify(t, "one of many anchors", []api.Step{stepOf(of, size-1, size), stepOf(l, i, len(l))}, want)
		}
	}
}

// Any place but its own is refused, by whichever error.
func TestVerifyOfAnotherPlace(t *testing.T) {
	l := filled(13)
	for size := 1; size <= 13; size++ {
		for i := range size {
			for k := -1; k <= size+1; k++ {
				s := stepOf(l, i, size)
				s.Index = k
				want := walked(master, []api.Step{s})
				if (want == api.OK) != (k == i) {
					t.Fatalf("%d of %d at %d is %d by the words", i, size, k, want)
				}
				wantVerify(t, "another place", []api.Step{s}, want)
			}
		}
	}
}

// Whatever bit of a proof, a root or a tag is turned.
func TestVerifyOfEachTurnedBit(t *testing.T) {
	for at := range 3 {
		p := chain(3, nil)
		for k := range p[at].Proof {
			for bit := range 256 {
				q := slices.Clone(p)
				q[at].Proof = slices.Clone(p[at].Proof)
				q[at].Proof[k] = turned(q[at].Proof[k], bit)
				wantVerify(t, "a bit of the proof", q, api.ErrCheckRoot)
			}
		}
		for bit := range 256 {
			q := slices.Clone(p)
			q[at].Head.Tag = turned(q[at].Head.Tag, bit)
			wantVerify(t, "a bit of the tag", q, api.ErrHeadTag)
			q = slices.Clone(p)
			q[at].Head.Head.Root = turned(q[at].Head.Head.Root, bit)
			wantVerify(t, "a bit of the root", q, api.ErrHeadTag)
			if at > 0 {
				q = slices.Clone(p)
				q[at].Item.Entry.Head.Tag = turned(q[at].Item.Entry.Head.Tag, bit)
				wantVerify(t, "a bit of the anchor's tag", q, api.ErrCheckRoot)
			}
		}
	}
}

func TestVerifyOfWrongHeadsAndItems(t *testing.T) {
	for at := range 3 {
		p := chain(3, nil)
		for _, s := range wrongHeads(p[at].Head.Head) {
			q := slices.Clone(p)
			q[at].Head = s
			wantVerify(t, "a wrong head", q, api.ErrHeadForm)
		}
		for _, s := range strangeTags(p[at].Head) {
			q := slices.Clone(p)
			q[at].Head = s
			wantVerify(t, "a strange tag", q, api.ErrHeadTag)
		}
		for what, x := range wrongItems() {
			q := slices.Clone(p)
			q[at].Item = x
			wantVerify(t, what, q, api.ErrPathForm)
			lay := bend{lay: func(api.Item) api.Item { return x }}
			wantVerify(t, what+" in the log too", chain(3, map[int][]bend{at: {lay}}), api.ErrPathForm)
		}
	}
}

func TestVerifyByAnotherKey(t *testing.T) {
	for n := 1; n <= 5; n++ {
		p := chain(n, nil)
		for _, key := range []api.Key{{}, another, api.Key(turned(api.Digest(master), 0)), api.Key(turned(api.Digest(master), 255))} {
			if e := path.Verify(key, p); e != api.ErrHeadTag {
				t.Errorf("P14.2: Verify of %d steps by another key is %d", n, e)
			}
			by := bend{step: func(s *api.Step) { s.Head = signed(key, s.Head.Head, s.Head.Node) }}
			bends := map[int][]bend{}
			for at := range n {
				bends[at] = []bend{by}
			}
			own := chain(n, bends)
			if e := path.Verify(key, own); e != api.OK {
				t.Errorf("P14.2: Verify of %d steps by a key of what it signed is %d", n, e)
			}
			wantVerify(t, "by another key", own, api.ErrHeadTag)
		}
	}
}

// Heads may have Sizes that no log of items has: of a leaf and as many digests as there must be, a root is made.
func TestVerifyOfGreatSizes(t *testing.T) {
	digests := make([]api.Digest, 20)
	for i := range digests {
		digests[i] = rising(3 * i)
	}
	for _, size := range []int{1, 2, 3, 2000, 2001, 65535, 65536, 65537, 99999, 100000} {
		for _, i := range []int{0, 1, size / 2, size - 2, size - 1} {
			if i < 0 || i >= size {
				continue
			}
			n := slices.IndexFunc(digests, func(d api.Digest) bool {
				_, whole := makes(size, i, empty, digests[:slices.Index(digests, d)])
				return whole
			})
			root, _ := makes(size, i, leafOf(user(1, 1)), digests[:n])
			h := api.Head{Region: 1, Epoch: 1, Size: size, Root: root}
			s := api.Step{Index: i, Item: user(1, 1), Proof: digests[:n], Head: signed(master, h, 1)}
			wantVerify(t, "a great size", []api.Step{s}, api.OK)
			s.Proof = digests[:n+1]
			wantVerify(t, "a great size, a digest too many", []api.Step{s}, api.ErrCheckForm)
			if n > 0 {
				s.Proof = digests[:n-1]
				wantVerify(t, "a great size, a digest too few", []api.Step{s}, api.ErrCheckForm)
			}
			s.Proof, s.Index = digests[:n], size
			wantVerify(t, "a great size, behind its last", []api.Step{s}, api.ErrCheckForm)
		}
	}
	// Of one more there is no right head.
	root, _ := makes(100001, 100000, leafOf(user(1, 1)), digests[:5])
	for n := range digests {
		h := api.Head{Region: 1, Epoch: 1, Size: 100001, Root: root}
		wantVerify(t, "a size above all", []api.Step{{Index: 100000, Item: user(1, 1), Proof: digests[:n], Head: signed(master, h, 1)}}, api.ErrHeadForm)
	}
}

// A head of no item has no place, whatever its root.
func TestVerifyOfHeadsOfNoItem(t *testing.T) {
	x := user(1, 1)
	for _, root := range []api.Digest{empty, leafOf(x), {}} {
		s := signed(master, api.Head{Region: 1, Epoch: 1, Root: root}, 1)
		for _, i := range append(slices.Clone(farOff), 0, 1) {
			for _, proof := range [][]api.Digest{nil, {}, {root}} {
				wantVerify(t, "a head of no item", []api.Step{{Index: i, Item: x, Proof: proof, Head: s}}, api.ErrCheckForm)
			}
		}
	}
}
