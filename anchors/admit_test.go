package anchors_test

import (
	"fmt"
	"slices"
	"testing"

	"estreat/anchors"
	"estreat/api"
	"estreat/history"
)

// wantAdmit holds Admit against what is meant and against the words, and what is admitted against what follows.
func wantAdmit(t *testing.T, what string, l []api.Item, s api.Signed, m int, proof []api.Digest, want api.Errno) {
	t.Helper()
	if model := admitted(master, l, s, m, proof); model != want {
		t.Fatalf("%s: Admit(%s, %+v, %d, %x) is meant to be %d, but by the words is %d", what, brief(l), s, m, proof, want, model)
	}
	if e := anchors.Admit(master, l, s, m, proof); e != want {
		t.Errorf("P13.2: %s: Admit(%s, %+v, %d, %x) is %d; want %d", what, brief(l), s, m, proof, e, want)
	}
	if want == api.OK {
		wantItCame(t, what, l, s)
	}
}

// wantItCame is P13.4's first sentence of what is admitted.
func wantItCame(t *testing.T, what string, l []api.Item, s api.Signed) {
	t.Helper()
	epoch := 1
	if len(l) > 0 {
		epoch = l[len(l)-1].Epoch
	}
	x := anchor(epoch, s)
	if len(l) == 2000 {
		if e := history.May(l, x); e != api.ErrLimit {
			t.Errorf("P13.4: %s: behind a full log may come what was admitted: %d", what, e)
		}
		return
	}
	if e := history.May(l, x); e != api.OK {
		t.Errorf("P13.4: %s: what was admitted may not come: %d", what, e)
	}
	grown := behind(l, x)
	if got, ok := anchors.Latest(grown, s.Head.Region); got != s || !ok {
		t.Errorf("P13.4: %s: what was admitted and came is not the latest one: %+v, %v", what, got, ok)
	}
	for _, none := range [][]api.Digest{nil, {}} {
		if e := anchors.Admit(master, grown, s, s.Head.Size, none); e != api.OK {
			t.Errorf("P13.4: %s: what was admitted and came is not admitted again: %d", what, e)
		}
	}
}

func TestAdmitOfTheChapter(t *testing.T) {
	a := signed(master, api.Head{Region: 2, Epoch: 1, Root: empty}, 1)
	for _, none := range [][]api.Item{nil, {}} {
		wantAdmit(t, "a first head", none, a, 0, nil, api.OK)
		wantAdmit(t, "a first head", none, a, 1, nil, api.ErrAnchorsBehind)
	}
	later := anchor(1, signed(master, api.Head{Region: 2, Epoch: 2, Root: empty}, 1))
	wantAdmit(t, "an epoch that falls", []api.Item{later}, a, 0, nil, api.ErrAnchorsBehind)
}

// A region without an anchor begins with the empty log: a first head of any Size needs no proof, and may have none.
func TestAdmitOfFirstHeads(t *testing.T) {
	for region := 1; region <= 5; region++ {
		g := lineOf(region, 9)
		var others []api.Item
		for other := 1; other <= 5; other++ {
			if other != region {
				others = append(others, loose(other, 900, 7))
			}
		}
		for _, l := range [][]api.Item{nil, {}, filled(1), filled(1999), filled(2000), others, behind(others, filled(5)...)} {
			for size := range 10 {
				for _, epoch := range []int{1, 2, 900000000} {
					s := g.signed(size, epoch)
					wantAdmit(t, "a first head", l, s, 0, nil, api.OK)
					wantAdmit(t, "with a digest", l, s, 0, []api.Digest{empty}, api.ErrAnchorsApart)
					for _, m := range append(farOff, 1, size+1) {
						wantAdmit(t, "from another m", l, s, m, nil, api.ErrAnchorsBehind)
					}
				}
			}
		}
	}
}

// Of the empty log the root is known; of any other one a first head may have any.
func TestAdmitOfFirstRoots(t *testing.T) {
	for _, root := range []api.Digest{{}, rising(1), turned(empty, 0), turned(empty, 255), empty} {
		for _, size := range []int{0, 1, 2, 100000} {
			want := api.OK
			if size == 0 && root != empty {
				want = api.ErrAnchorsApart
			}
			s := signed(master, api.Head{Region: 2, Epoch: 1, Size: size, Root: root}, 3)
			wantAdmit(t, "a first root", nil, s, 0, nil, want)
		}
	}
}

func TestAdmitOfHeadsThatGrow(t *testing.T) {
	g := lineOf(2, 35)
	for m := range 35 {
		l := g.log(m, 3)
		for n := m; n <= 35; n++ {
			what := fmt.Sprintf("from %d to %d", m, n)
			wantAdmit(t, what, l, g.signed(n, 3), m, g.proof(m, n), api.OK)
			wantAdmit(t, what+" in a later epoch", l, g.signed(n, 4), m, g.proof(m, n), api.OK)
			wantAdmit(t, what+" in an epoch ahead", l, g.signed(n, 2), m, g.proof(m, n), api.ErrAnchorsBehind)
		}
	}
}

func TestAdmitWithWrongProofs(t *testing.T) {
	g := lineOf(2, 17)
	for m := range 18 {
		l := g.log(m, 1)
		for n := m; n <= 17; n++ {
			s, p := g.signed(n, 1), g.proof(m, n)
			refuse := func(what string, p []api.Digest) {
				t.Helper()
				wantAdmit(t, fmt.Sprintf("from %d to %d, %s", m, n, what), l, s, m, p, api.ErrAnchorsApart)
			}
			refuse("one too many behind", append(slices.Clone(p), empty))
			refuse("one too many ahead", append([]api.Digest{g.leaves[0]}, p...))
			if len(p) == 0 {
				continue
			}
			refuse("one too few", p[:len(p)-1])
			refuse("the first one gone", p[1:])
			refuse("the last one twice", append(slices.Clone(p), p[len(p)-1]))
			for i := range p {
				x := slices.Clone(p)
				x[i] = turned(x[i], (37*i+m)%256)
				refuse("turned", x)
			}
			if len(p) > 1 {
				x := slices.Clone(p)
				slices.Reverse(x)
				refuse("the wrong way round", x)
			}
		}
	}
}

// Proofs of other steps than that from the last head to this one.
func TestAdmitWithOtherProofs(t *testing.T) {
	g := lineOf(2, 12)
	l, s := g.log(5, 1), g.signed(11, 1)
	for m := range 13 {
		for n := m; n <= 12; n++ {
			want := api.ErrAnchorsApart
			if m == 5 && n == 11 {
				want = api.OK
			}
			wantAdmit(t, fmt.Sprintf("the proof from %d to %d", m, n), l, s, 5, g.proof(m, n), want)
		}
	}
}

func TestAdmitOfTheSameHeadAgain(t *testing.T) {
	g := lineOf(4, 20)
	for _, size := range []int{0, 1, 2, 3, 8, 20} {
		l := g.log(size, 6)
		s := g.signed(size, 6)
		wantAdmit(t, "the same head", l, s, size, nil, api.OK)
		wantAdmit(t, "the same head with a digest", l, s, size, []api.Digest{s.Head.Root}, api.ErrAnchorsApart)
		wantAdmit(t, "the same head from before", l, s, size-1, nil, api.ErrAnchorsBehind)
		wantAdmit(t, "the same head from behind", l, s, size+1, nil, api.ErrAnchorsBehind)
		// Who signed it, and when, plays no part.
		h := s.Head
		h.Tick = 900000000
		wantAdmit(t, "at another tick", l, signed(master, h, 1+s.Node%3), size, nil, api.OK)
		h.Epoch = 7
		wantAdmit(t, "in a later epoch", l, signed(master, h, 2), size, nil, api.OK)
		h.Epoch = 900000000
		wantAdmit(t, "in the last epoch", l, signed(master, h, 2), size, nil, api.OK)
	}
}

func TestAdmitOfTheSameSizeWithAnotherRoot(t *testing.T) {
	g := lineOf(2, 20)
	for _, size := range []int{0, 1, 2, 3, 8, 20} {
		for _, bit := range []int{0, 7, 128, 255} {
			h := g.head(size, 6)
			h.Root = turned(h.Root, bit)
			wantAdmit(t, "another root", g.log(size, 6), signed(master, h, 1), size, nil, api.ErrAnchorsApart)
			h.Epoch = 7
			wantAdmit(t, "another root of a later epoch", g.log(size, 6), signed(master, h, 1), size, nil, api.ErrAnchorsApart)
			wantAdmit(t, "both roots as proof", g.log(size, 6), signed(master, h, 1), size, []api.Digest{h.Root}, api.ErrAnchorsApart)
		}
	}
}

// A list that is another one from some place on is refused from the first head on that has that place, with its own proofs.
func TestAdmitOfListsThatForked(t *testing.T) {
	g := lineOf(3, 16)
	for at := range 16 {
		f := g.forked(at)
		for m := range 17 {
			for n := m; n <= 16; n++ {
				want := api.ErrAnchorsApart
				if at >= m {
					want = api.OK
				}
				wantAdmit(t, fmt.Sprintf("forked at %d, from %d to %d", at, m, n), g.log(m, 1), f.signed(n, 1), m, f.proof(m, n), want)
			}
		}
	}
}

func TestAdmitOfWhatIsBehind(t *testing.T) {
	g := lineOf(2, 20)
	l := g.log(9, 5)
	for size := range 9 {
		for _, epoch := range []int{4, 5, 6, 900000000} {
			for _, m := range []int{size, 9, 0} {
				wantAdmit(t, "a lesser size", l, g.signed(size, epoch), m, g.proof(min(size, m), size), api.ErrAnchorsBehind)
			}
		}
	}
	for _, size := range []int{9, 10, 20} {
		for _, epoch := range []int{1, 2, 3, 4} {
			wantAdmit(t, "a lesser epoch", l, g.signed(size, epoch), 9, g.proof(9, size), api.ErrAnchorsBehind)
		}
		for _, m := range append(farOff, 0, 1, 8, 10, size+1, 265, 65545) {
			var p []api.Digest
			if m >= 0 && m <= size {
				p = g.proof(m, size)
			}
			wantAdmit(t, "another m", l, g.signed(size, 5), m, p, api.ErrAnchorsBehind)
		}
	}
}

// It is the head's Epoch that is held against the last head's, not those of the items.
func TestAdmitLooksAtHeadsEpochs(t *testing.T) {
	g := lineOf(2, 9)
	for _, x := range []struct{ item, was, is int }{
		{900000000, 1, 1}, {900000000, 1, 2}, {7, 5, 6}, {1, 7, 7}, {1, 900000000, 900000000}, {3, 900000000, 900000000},
	} {
		l := []api.Item{anchor(x.item, g.signed(4, x.was)), user(x.item, 1)}
		wantAdmit(t, "an epoch", l, g.signed(9, x.is), 4, g.proof(4, 9), api.OK)
		if x.was > 1 {
			wantAdmit(t, "an epoch ahead", l, g.signed(9, x.was-1), 4, g.proof(4, 9), api.ErrAnchorsBehind)
		}
	}
}

// The last anchor of the region counts, whatever stands ahead of it, behind it or of other regions.
func TestAdmitGoesOnFromTheLatest(t *testing.T) {
	g, other := lineOf(2, 20), lineOf(4, 20)
	l := []api.Item{
		anchor(1, g.signed(3, 1)), user(1, 1), anchor(1, other.signed(15, 8)), anchor(1, g.signed(6, 2)), claim(1),
		anchor(2, other.signed(17, 9)), user(2, 2), anchor(2, loose(1, 50, 3).Entry.Head),
	}
	wantAdmit(t, "from the latest", l, g.signed(10, 2), 6, g.proof(6, 10), api.OK)
	wantAdmit(t, "from the one ahead", l, g.signed(10, 2), 3, g.proof(3, 10), api.ErrAnchorsBehind)
	wantAdmit(t, "from another region's", l, g.signed(17, 9), 17, nil, api.ErrAnchorsBehind)
	wantAdmit(t, "an epoch of the one ahead", l, g.signed(10, 1), 6, g.proof(6, 10), api.ErrAnchorsBehind)
	wantAdmit(t, "the other region's", l, other.signed(20, 9), 17, other.proof(17, 20), api.OK)
	wantAdmit(t, "the other region's, from this one's", l, other.signed(20, 9), 6, other.proof(6, 20), api.ErrAnchorsBehind)
	// A log that was not laid by Admit may have its latest one fall.
	fallen := []api.Item{anchor(1, g.signed(12, 9)), anchor(1, g.signed(4, 2))}
	wantAdmit(t, "from a latest one that fell", fallen, g.signed(5, 2), 4, g.proof(4, 5), api.OK)
	wantAdmit(t, "from the greatest", fallen, g.signed(14, 9), 12, g.proof(12, 14), api.ErrAnchorsBehind)
}

// A log may have an anchor of Size 0 whose Root is not that of no items: nothing goes on from it.
func TestAdmitBehindAWrongRootOfNothing(t *testing.T) {
	g := lineOf(2, 5)
	s := signed(master, api.Head{Region: 2, Epoch: 1, Root: rising(9)}, 1)
	l := []api.Item{anchor(1, s)}
	wantAdmit(t, "itself", l, s, 0, nil, api.ErrAnchorsApart)
	wantAdmit(t, "the true one", l, g.signed(0, 1), 0, nil, api.ErrAnchorsApart)
	wantAdmit(t, "a greater one", l, g.signed(5, 1), 0, nil, api.ErrAnchorsApart)
}

func TestAdmitOfWrongLogs(t *testing.T) {
	g := lineOf(2, 9)
	for what, l := range wrongLogs() {
		for _, m := range []int{-1, 0, 3} {
			wantAdmit(t, what, l, g.signed(9, 1), m, g.proof(3, 9), api.ErrAnchorsForm)
			wantAdmit(t, what, l, g.signed(9, 1), m, nil, api.ErrAnchorsForm)
		}
	}
	wantAdmit(t, "a full log", behind(filled(1999), anchor(1, g.signed(3, 1))), g.signed(9, 1), 3, g.proof(3, 9), api.OK)
}

func TestAdmitOfWrongHeads(t *testing.T) {
	g := lineOf(2, 9)
	for _, s := range wrongHeads(g.head(9, 1)) {
		wantAdmit(t, "a wrong head", g.log(3, 1), s, 3, g.proof(3, 9), api.ErrHeadForm)
		wantAdmit(t, "a wrong first head", nil, s, 0, nil, api.ErrHeadForm)
		wantAdmit(t, "a wrong head, behind", g.log(3, 1), s, -1, nil, api.ErrHeadForm)
	}
}

func TestAdmitOfStrangeTags(t *testing.T) {
	g := lineOf(2, 9)
	for _, s := range strangeTags(g.signed(8, 1)) {
		wantAdmit(t, "a strange tag", g.log(3, 1), s, 3, g.proof(3, 8), api.ErrHeadTag)
		wantAdmit(t, "a strange tag, first", nil, s, 0, nil, api.ErrHeadTag)
	}
	// What lies in the log with a strange tag was let in by others; it is gone on from all the same.
	for _, s := range strangeTags(g.signed(3, 1))[:3] {
		wantAdmit(t, "behind a strange tag", []api.Item{anchor(1, s)}, g.signed(8, 1), 3, g.proof(3, 8), api.OK)
	}
}

func TestAdmitByAnotherKey(t *testing.T) {
	g := lineOf(2, 9)
	l, s, p := g.log(3, 1), g.signed(9, 1), g.proof(3, 9)
	for _, key := range []api.Key{{}, another, api.Key(turned(api.Digest(master), 0)), api.Key(turned(api.Digest(master), 255))} {
		if e := anchors.Admit(key, l, s, 3, p); e != api.ErrHeadTag {
			t.Errorf("P13.2: Admit by another key is %d", e)
		}
		own := signed(key, s.Head, s.Node)
		if e := anchors.Admit(key, l, own, 3, p); e != api.OK {
			t.Errorf("P13.2: Admit by a key of what it signed is %d", e)
		}
		wantAdmit(t, "by another key", l, own, 3, p, api.ErrHeadTag)
	}
}

// Each choice of what may be wrong: the answer is what the promise names first.
func TestAdmitTellsTheFirstError(t *testing.T) {
	g := lineOf(2, 12)
	for wrong := range 1 << 7 {
		has := func(bit int) bool { return wrong>>bit&1 == 1 }
		l, size, epoch, m, node, p := g.log(6, 5), 9, 5, 6, 2, g.proof(6, 9)
		want := api.OK
		if has(6) {
			p, want = append(p, empty), api.ErrAnchorsApart
		}
		if has(5) {
			m, want = 7, api.ErrAnchorsBehind
		}
		if has(4) {
			size, want = 5, api.ErrAnchorsBehind
		}
		if has(3) {
			epoch, want = 4, api.ErrAnchorsBehind
		}
		s := signed(master, g.head(size, epoch), node)
		if has(2) {
			s.Tag, want = turned(s.Tag, wrong), api.ErrHeadTag
		}
		if has(1) {
			s.Node, want = 4, api.ErrHeadForm
		}
		if has(0) {
			l, want = append(l, api.Item{}), api.ErrAnchorsForm
		}
		wantAdmit(t, fmt.Sprintf("wrong by %b", wrong), l, s, m, p, want)
	}
}

// Heads may have Sizes that no log of items here has.
func TestAdmitOfGreatSizes(t *testing.T) {
	g := lineOf(5, 100000)
	for _, x := range []struct{ m, n int }{
		{0, 100000}, {1, 100000}, {2000, 2001}, {65535, 65536}, {65536, 65537}, {65536, 100000}, {65537, 100000}, {99999, 100000}, {100000, 100000},
	} {
		l, s, p := g.log(x.m, 1), g.signed(x.n, 1), g.proof(x.m, x.n)
		what := fmt.Sprintf("from %d to %d", x.m, x.n)
		wantAdmit(t, what, l, s, x.m, p, api.OK)
		wantAdmit(t, what+", one too many", l, s, x.m, append(slices.Clone(p), empty), api.ErrAnchorsApart)
		wantAdmit(t, what+", another m", l, s, x.m+1, p, api.ErrAnchorsBehind)
	}
	wantAdmit(t, "from 100000 back", g.log(100000, 1), g.signed(99999, 1), 100000, nil, api.ErrAnchorsBehind)
}

func TestAdmitInAllSmallLogs(t *testing.T) {
	g, f := lineOf(2, 6), lineOf(2, 6).forked(2)
	some := []api.Item{
		user(1, 1), anchor(1, g.signed(0, 1)), anchor(1, g.signed(3, 1)), anchor(1, g.signed(3, 2)), anchor(1, f.signed(4, 1)),
		anchor(1, lineOf(3, 6).signed(5, 2)), {},
	}
	heads := []api.Signed{g.signed(0, 1), g.signed(3, 1), g.signed(5, 2), f.signed(4, 1), f.signed(6, 1), {}}
	proofs := [][]api.Digest{nil, g.proof(3, 5), f.proof(4, 6), {empty}}
	allLogs(3, some, func(l []api.Item) {
		for _, s := range heads {
			for m := -1; m <= 5; m++ {
				for _, p := range proofs {
					want := admitted(master, l, s, m, p)
					if e := anchors.Admit(master, l, s, m, p); e != want {
						t.Errorf("P13.2: Admit(%s, %+v, %d, %x) is %d; want %d", brief(l), s, m, p, e, want)
					}
				}
			}
		}
	})
}
