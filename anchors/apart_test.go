package anchors_test

import (
	"testing"

	"estreat/anchors"
	"estreat/api"
)

// wantApart holds Apart against what is meant and against the words, both ways round.
func wantApart(t *testing.T, what string, a, b api.Signed, want bool) {
	t.Helper()
	if model := areApart(master, a, b); model != want {
		t.Fatalf("%s: Apart(%+v, %+v) is meant to be %v, but by the words is %v", what, a, b, want, model)
	}
	if anchors.Apart(master, a, b) != want || anchors.Apart(master, b, a) != want {
		t.Errorf("P13.3: %s: Apart(%+v, %+v) is not %v", what, a, b, want)
	}
}

func someHeads() []api.Head {
	return []api.Head{
		{Region: 1, Epoch: 1}, {Region: 2, Epoch: 1, Root: empty}, {Region: 2, Epoch: 3, Size: 4, Root: rising(3), Tick: 9},
		{Region: 5, Epoch: 900000000, Size: 100000, Root: rising(200), Tick: 900000000},
	}
}

// other is h with a Root that is unlike in one bit.
func other(h api.Head, bit int) api.Head {
	h.Root = turned(h.Root, bit)
	return h
}

func TestApartOfTheChapter(t *testing.T) {
	a := signed(master, api.Head{Region: 2, Epoch: 1, Root: empty}, 1)
	wantApart(t, "A and A", a, a, false)
}

func TestApartOfHeadsThatAreAlike(t *testing.T) {
	for _, h := range someHeads() {
		for one := 1; one <= 3; one++ {
			for two := 1; two <= 3; two++ {
				later := h
				later.Tick = 900000000 - h.Tick
				wantApart(t, "alike", signed(master, h, one), signed(master, h, two), false)
				wantApart(t, "alike but for the Tick", signed(master, h, one), signed(master, later, two), false)
			}
		}
	}
}

// Who signed, and when, plays no part.
func TestApartOfUnlikeRoots(t *testing.T) {
	for _, h := range someHeads() {
		for one := 1; one <= 3; one++ {
			for two := 1; two <= 3; two++ {
				for _, tick := range []int{h.Tick, 0, 1, 900000000} {
					x := other(h, 17)
					x.Tick = tick
					wantApart(t, "unlike roots", signed(master, h, one), signed(master, x, two), true)
				}
			}
		}
		for bit := range 256 {
			wantApart(t, "roots unlike in a bit", signed(master, h, 1), signed(master, other(h, bit), 1), true)
		}
	}
}

func TestApartOfWhatIsUnlikeBesides(t *testing.T) {
	h := api.Head{Region: 2, Epoch: 3, Size: 4, Root: rising(3), Tick: 9}
	for what, change := range map[string]func(*api.Head){
		"Region":          func(h *api.Head) { h.Region = 3 },
		"Epoch":           func(h *api.Head) { h.Epoch = 4 },
		"Size":            func(h *api.Head) { h.Size = 5 },
		"Size and Epoch":  func(h *api.Head) { h.Size, h.Epoch = 3, 4 },
		"Region and Size": func(h *api.Head) { h.Region, h.Size = 4, 2 },
		"Region, below":   func(h *api.Head) { h.Region = 1 },
		"Epoch, by 256":   func(h *api.Head) { h.Epoch += 256 },
		"Size, by 65536":  func(h *api.Head) { h.Size += 65536 },
		"all of them":     func(h *api.Head) { h.Region, h.Epoch, h.Size, h.Tick = 1, 1, 1, 1 },
	} {
		x := h
		change(&x)
		wantApart(t, "the "+what, signed(master, h, 1), signed(master, x, 1), false)
		wantApart(t, "the Root and the "+what, signed(master, h, 1), signed(master, other(x, 5), 1), false)
	}
}

func TestApartOfWrongHeads(t *testing.T) {
	h := api.Head{Region: 2, Epoch: 3, Size: 4, Root: rising(3), Tick: 9}
	right := signed(master, h, 1)
	for _, s := range wrongHeads(other(h, 5)) {
		wantApart(t, "a wrong head", right, s, false)
		// Two that are wrong alike, but for the Root.
		x := s
		x.Head.Root = h.Root
		wantApart(t, "two wrong heads", s, signed(master, x.Head, x.Node), false)
	}
}

func TestApartOfStrangeTags(t *testing.T) {
	h := api.Head{Region: 2, Epoch: 3, Size: 4, Root: rising(3), Tick: 9}
	right := signed(master, h, 1)
	for _, s := range strangeTags(signed(master, other(h, 5), 2)) {
		wantApart(t, "a strange tag", right, s, false)
	}
	for _, s := range strangeTags(right)[:9] {
		wantApart(t, "two strange tags", s, strangeTags(signed(master, other(h, 5), 2))[1], false)
	}
}

func TestApartByAnotherKey(t *testing.T) {
	for _, h := range someHeads() {
		a, b := signed(master, h, 1), signed(master, other(h, 5), 2)
		for _, key := range []api.Key{{}, another, api.Key(turned(api.Digest(master), 0))} {
			if anchors.Apart(key, a, b) {
				t.Errorf("P13.3: Apart by another key is true")
			}
			one, two := signed(key, a.Head, 1), signed(key, b.Head, 2)
			if !anchors.Apart(key, one, two) {
				t.Errorf("P13.3: Apart by a key of what it signed is false")
			}
			wantApart(t, "one by another key", a, two, false)
			wantApart(t, "one by another key", one, b, false)
			wantApart(t, "both by another key", one, two, false)
		}
	}
}

// Two heads that are apart are not admitted one behind the other.
func TestWhatIsApartIsNotAdmitted(t *testing.T) {
	g := lineOf(2, 9)
	for size := range 10 {
		a, b := g.signed(size, 4), signed(master, other(g.head(size, 4), 8), 3)
		wantApart(t, "of one size", a, b, true)
		for _, p := range [][]api.Digest{nil, {b.Head.Root}, {a.Head.Root, b.Head.Root}} {
			wantAdmit(t, "what is apart", []api.Item{anchor(1, a)}, b, size, p, api.ErrAnchorsApart)
		}
	}
}
