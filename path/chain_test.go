package path_test

import (
	"slices"

	"estreat/api"
)

// bend is something wrong with one step: with what its log has in the anchor's place, or with the step that was made.
type bend struct {
	what string
	rank int // of two bends of one step, that of the lower rank is told
	want api.Errno
	lay  func(x api.Item) api.Item
	step func(s *api.Step)
}

// The ranks, in the order in which P14.2, with chapters 5 and 7, names the errors.
const (
	headForm = iota
	headTag
	itemForm
	proofForm
	proofRoot
	noAnchor
	ranks
)

// chain is a path of n steps of n logs, with bends at some of its places. What is laid behind a bent step is an anchor of its head as it is then, so that no other step is wrong by it.
func chain(n int, bends map[int][]bend) []api.Step {
	var p []api.Step
	for k := range n {
		x := user(2, 90+k)
		if k > 0 {
			x = anchor(2, p[k-1].Head)
		}
		for _, b := range bends[k] {
			if b.lay != nil {
				x = b.lay(x)
			}
		}
		at := 4 + k
		l := behind(filled(at), x, claim(2), user(2, 100+k))
		s := stepOf(l, at, len(l)-k%2)
		h := s.Head.Head
		h.Region = 1 + k%5
		s.Head = signed(master, h, 1+k%3)
		for _, b := range bends[k] {
			if b.step != nil {
				b.step(&s)
			}
		}
		p = append(p, s)
	}
	return p
}

// alone is a chain with one bend.
func alone(n, at int, b bend) []api.Step {
	return chain(n, map[int][]bend{at: {b}})
}

// few are one bend of each rank; none of them undoes another.
func few() []bend {
	return []bend{
		{"a node 4", headForm, 70, nil, func(s *api.Step) { s.Head.Node = 4 }},
		{"a tag that is turned", headTag, 72, nil, func(s *api.Step) { s.Head.Tag = turned(s.Head.Tag, 77) }},
		{"an Epoch of 0", itemForm, 130, nil, func(s *api.Step) { s.Item.Epoch = 0 }},
		{"a digest too many", proofForm, 40, nil, func(s *api.Step) { s.Proof = append(slices.Clone(s.Proof), rising(1)) }},
		{"a digest that is turned", proofRoot, 41, nil, func(s *api.Step) {
			s.Proof = slices.Clone(s.Proof)
			s.Proof[0] = turned(s.Proof[0], 200)
		}},
		{"a user's in the anchor's place", noAnchor, 130, func(api.Item) api.Item { return user(2, 80) }, nil},
	}
}

// headBends have something wrong with the head, and sign it as it is where that is not the matter.
func headBends() []bend {
	var l []bend
	form := func(what string, node int, change func(*api.Head)) {
		l = append(l, bend{what, headForm, 70, nil, func(s *api.Step) {
			change(&s.Head.Head)
			s.Head = signed(master, s.Head.Head, node)
		}})
	}
	form("a node 0", 0, func(*api.Head) {})
	form("a node below 0", -1, func(*api.Head) {})
	form("a node 4", 4, func(*api.Head) {})
	form("a region 0", 2, func(h *api.Head) { h.Region = 0 })
	form("a region 6", 2, func(h *api.Head) { h.Region = 6 })
	form("an epoch 0", 2, func(h *api.Head) { h.Epoch = 0 })
	form("an epoch above all", 2, func(h *api.Head) { h.Epoch = 900000001 })
	form("a size below 0", 2, func(h *api.Head) { h.Size = -1 })
	form("a size above all", 2, func(h *api.Head) { h.Size = 100001 })
	form("a tick below 0", 2, func(h *api.Head) { h.Tick = -1 })
	form("a tick above all", 2, func(h *api.Head) { h.Tick = 900000001 })
	form("a zero head", 2, func(h *api.Head) { *h = api.Head{} })
	tag := func(what string, change func(*api.Signed)) {
		l = append(l, bend{what, headTag, 72, nil, func(s *api.Step) { change(&s.Head) }})
	}
	tag("a tag that is turned", func(s *api.Signed) { s.Tag = turned(s.Tag, 255) })
	tag("no tag", func(s *api.Signed) { s.Tag = api.Digest{} })
	tag("another node's tag", func(s *api.Signed) { s.Tag = signed(master, s.Head, 1+s.Node%3).Tag })
	tag("another node", func(s *api.Signed) { s.Node = 1 + s.Node%3 })
	tag("another key's tag", func(s *api.Signed) { s.Tag = signed(another, s.Head, s.Node).Tag })
	tag("another region", func(s *api.Signed) { s.Head.Region = 1 + s.Head.Region%5 })
	tag("another epoch", func(s *api.Signed) { s.Head.Epoch++ })
	tag("another size", func(s *api.Signed) { s.Head.Size++ })
	tag("another root", func(s *api.Signed) { s.Head.Root = turned(s.Head.Root, 0) })
	tag("another tick", func(s *api.Signed) { s.Head.Tick++ })
	return l
}

// itemBends have an item that is not right: whatever its kind, and in the log too, so that the proof is of it.
func itemBends() []bend {
	var l []bend
	add := func(what string, change func(*api.Item)) {
		lay := func(x api.Item) api.Item {
			change(&x)
			return x
		}
		l = append(l, bend{what, itemForm, 130, lay, nil})
		l = append(l, bend{what + " in the step alone", itemForm, 130, nil, func(s *api.Step) { change(&s.Item) }})
	}
	add("an item's Epoch of 0", func(x *api.Item) { x.Epoch = 0 })
	add("an item's Epoch above all", func(x *api.Item) { x.Epoch = 900000001 })
	add("no kind", func(x *api.Item) { x.Entry.Kind = 0 })
	add("a kind that there isn't", func(x *api.Item) { x.Entry.Kind = 4 })
	add("a client that there isn't", func(x *api.Item) { x.Entry.Client = 7 })
	add("a Seq that there isn't", func(x *api.Item) { x.Entry.Seq = -1 })
	add("a user's and a claim's", func(x *api.Item) { x.Entry.Claim, x.Entry.Text = claim(1).Entry.Claim, "x" })
	add("a zero item", func(x *api.Item) { *x = api.Item{} })
	return l
}

// proofBends have a place or a proof that does not go with the head and the item.
func proofBends() []bend {
	var l []bend
	add := func(what string, rank int, want api.Errno, change func(*api.Step)) {
		l = append(l, bend{what, rank, want, nil, change})
	}
	for _, n := range farOff {
		add("a place that nothing has", proofForm, 40, func(s *api.Step) { s.Index = n })
	}
	add("the place behind the last", proofForm, 40, func(s *api.Step) { s.Index = s.Head.Head.Size })
	add("a digest too few", proofForm, 40, func(s *api.Step) { s.Proof = s.Proof[:len(s.Proof)-1] })
	add("the first digest gone", proofForm, 40, func(s *api.Step) { s.Proof = s.Proof[1:] })
	add("no digest", proofForm, 40, func(s *api.Step) { s.Proof = nil })
	add("a digest too many", proofForm, 40, func(s *api.Step) { s.Proof = append(slices.Clone(s.Proof), s.Proof[0]) })
	add("a digest too many ahead", proofForm, 40, func(s *api.Step) { s.Proof = slices.Concat([]api.Digest{rising(3)}, s.Proof) })
	add("a head of no item", proofForm, 40, func(s *api.Step) {
		h := s.Head.Head
		h.Size, h.Root = 0, empty
		s.Head = signed(master, h, s.Head.Node)
	})
	for k := range 2 {
		add("a digest that is turned", proofRoot, 41, func(s *api.Step) {
			s.Proof = slices.Clone(s.Proof)
			s.Proof[k] = turned(s.Proof[k], 100*k)
		})
	}
	add("a proof the wrong way round", proofRoot, 41, func(s *api.Step) {
		s.Proof = slices.Clone(s.Proof)
		slices.Reverse(s.Proof)
	})
	add("an item of another place", proofRoot, 41, func(s *api.Step) { s.Item = filled(1)[0] })
	add("an item of no place", proofRoot, 41, func(s *api.Step) { s.Item = user(3, 1000) })
	add("an item of another Epoch", proofRoot, 41, func(s *api.Step) { s.Item.Epoch++ })
	add("a head of another root", proofRoot, 41, func(s *api.Step) {
		h := s.Head.Head
		h.Root = turned(h.Root, 3)
		s.Head = signed(master, h, s.Head.Node)
	})
	return l
}

// anchorBends have a right item that stands in its place, and is no anchor of the head ahead.
func anchorBends() []bend {
	var l []bend
	add := func(what string, lay func(x api.Item) api.Item) {
		l = append(l, bend{what, noAnchor, 130, lay, nil})
	}
	add("a user's", func(api.Item) api.Item { return user(2, 80) })
	add("a claim's", func(api.Item) api.Item { return claim(2) })
	add("a head of nobody's", func(api.Item) api.Item { return anchor(2, strange) })
	head := func(what string, change func(*api.Signed)) {
		add(what, func(x api.Item) api.Item {
			change(&x.Entry.Head)
			return x
		})
	}
	anew := func(what string, change func(*api.Head)) {
		head(what+", signed", func(s *api.Signed) {
			change(&s.Head)
			*s = signed(master, s.Head, s.Node)
		})
		head(what, func(s *api.Signed) { change(&s.Head) })
	}
	anew("another region", func(h *api.Head) { h.Region = 1 + h.Region%5 })
	anew("another epoch", func(h *api.Head) { h.Epoch++ })
	anew("another size", func(h *api.Head) { h.Size-- })
	anew("another root", func(h *api.Head) { h.Root = turned(h.Root, 255) })
	anew("another tick", func(h *api.Head) { h.Tick++ })
	head("another tag", func(s *api.Signed) { s.Tag = turned(s.Tag, 0) })
	head("no tag", func(s *api.Signed) { s.Tag = api.Digest{} })
	head("another node", func(s *api.Signed) { s.Node = 1 + s.Node%3 })
	head("another node's", func(s *api.Signed) { *s = signed(master, s.Head, 1+s.Node%3) })
	head("another key's", func(s *api.Signed) { *s = signed(another, s.Head, s.Node) })
	return l
}

func allBends() []bend {
	return slices.Concat(headBends(), itemBends(), proofBends(), anchorBends())
}
