package path_test

import (
	"slices"
	"testing"

	"estreat/api"
)

// tape hands out made-up bytes one by one; behind its end all are 0.
type tape []byte

func (p *tape) next() int {
	if len(*p) == 0 {
		return 0
	}
	c := (*p)[0]
	*p = (*p)[1:]
	return int(c)
}

// number is mostly a small one, at times one of those that nothing has.
func (p *tape) number(most int) int {
	c := p.next()
	if c >= 239 {
		return farOff[(c-239)%len(farOff)]
	}
	return c % (most + 1)
}

// log is mostly right; some of its items are anchors of the head ahead.
func (p *tape) log(ahead api.Signed) []api.Item {
	l := filled(p.next() % 6)
	epoch := 2
	for range p.next() % 5 {
		c := p.next()
		switch {
		case c >= 253:
			l = append(l, api.Item{})
			continue
		case c >= 250:
			epoch--
		case c%16 == 15:
			epoch++
		}
		if c%4 == 0 {
			l = append(l, user(epoch, 1+c))
		} else {
			l = append(l, anchor(epoch, ahead))
		}
	}
	return l
}

// signed is mostly the head of a log up to somewhere, at times one with something wrong.
func (p *tape) signed(l []api.Item) api.Signed {
	c := p.next()
	size := len(l)
	if c%4 == 3 {
		size = c / 4 % (size + 1)
	}
	h := headOf(l, size)
	h.Region = 1 + c%5
	s := signed(master, h, 1+c%3)
	switch {
	case c >= 252:
		wrong := wrongHeads(h)
		return wrong[p.next()%len(wrong)]
	case c >= 244:
		wrong := strangeTags(s)
		return wrong[p.next()%len(wrong)]
	case c >= 236:
		h.Root = turned(h.Root, p.next())
		return signed(master, h, 1)
	}
	return s
}

// step is mostly that of a log's last item, at times one that is bent.
func (p *tape) step(ahead api.Signed) api.Step {
	l := p.log(ahead)
	if len(l) == 0 {
		l = []api.Item{anchor(1, ahead)}
	}
	s := p.signed(l)
	n := min(max(s.Head.Size, 1), len(l))
	i := n - 1
	c := p.next()
	if c%4 == 3 {
		i = c / 4 % n
	}
	step := api.Step{Index: i, Item: l[i], Proof: inclusionOf(leavesOf(l[:n]), i), Head: s}
	if c >= 224 {
		bends := slices.Concat(headBends(), few()[:4])
		if b := bends[p.next()%len(bends)]; b.step != nil {
			b.step(&step)
		}
	}
	return step
}

func FuzzCalls(f *testing.F) {
	f.Add([]byte{})
	f.Add([]byte{3, 2, 1, 5, 0, 2, 2, 4, 1, 1, 1, 0, 0, 3, 2, 1, 1, 4, 0, 2, 1, 1, 8, 0})
	f.Add([]byte{4, 0, 1, 1, 0, 0, 0, 1, 1, 0, 0, 0, 1, 1, 0, 0, 0, 1, 1, 0, 0, 240, 7, 250, 9})
	f.Add([]byte{5, 1, 1, 1, 0, 0, 2, 1, 1, 0, 0, 3, 1, 1, 0, 0, 4, 1, 1, 0, 0, 5, 1, 1, 0, 230, 3, 255, 253, 252, 251})
	f.Add([]byte("some bytes that make up a path of many steps, over logs with anchors, whatever these may be"))
	f.Fuzz(func(t *testing.T, b []byte) {
		p := tape(b)
		var steps []api.Step
		ahead := strange
		for range p.next() % 7 {
			s := p.step(ahead)
			steps = append(steps, s)
			ahead = s.Head
			wantVerify(t, "a made-up path", steps, walked(master, steps))
		}
		l := p.log(ahead)
		for range 3 {
			s, i := p.signed(l), p.number(len(l)+1)
			_, want := made(l, i, s)
			wantMake(t, "a made-up log", l, i, s, want)
		}
	})
}
