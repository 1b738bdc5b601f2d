package anchors_test

import (
	"slices"
	"testing"

	"estreat/anchors"
	"estreat/api"
)

// tape hands out made-up bytes one by one; behind its end all are 0.
type tape []byte

func (p *tape) next() int {
	if len(*p) == 0 {
		return 0
	}
	c := (*p)[0]
	*p = (*p)[1:]
	return int(c)
}

// number is mostly a small one, at times one of those that nothing has.
func (p *tape) number(most int) int {
	c := p.next()
	if c >= 239 {
		return farOff[(c-239)%len(farOff)]
	}
	return c % (most + 1)
}

// signed is mostly a head of one of two lists that are one up to 4, at times one with something wrong.
func (p *tape) signed(lines [2]lineage) api.Signed {
	c := p.next()
	g := lines[c/8%2]
	g.region = 2 + c/16%2
	s := g.signed(p.next()%13, 1+c%3)
	if c >= 252 {
		l := wrongHeads(s.Head)
		return l[p.next()%len(l)]
	}
	if c >= 244 {
		l := strangeTags(s)
		return l[p.next()%len(l)]
	}
	return s
}

// item is mostly right; its Epoch mostly stays or rises.
func (p *tape) item(epoch int, lines [2]lineage) api.Item {
	c := p.next()
	switch {
	case c >= 253:
		return api.Item{}
	case c >= 250:
		epoch--
	case c%16 == 15:
		epoch++
	}
	switch c % 5 {
	case 0:
		return user(epoch, 1+c)
	case 1:
		return claim(epoch)
	}
	return anchor(epoch, p.signed(lines))
}

// proof is mostly the one from m to n of a list, at times with something wrong.
func (p *tape) proof(lines [2]lineage, m, n int) []api.Digest {
	c := p.next()
	if m < 0 || n > 12 || m > n || c >= 250 {
		return slices.Repeat([]api.Digest{rising(c)}, c%5)
	}
	l := lines[c/8%2].proof(m, n)
	if c >= 230 && len(l) > 0 {
		l[c%len(l)] = turned(l[c%len(l)], p.next())
	} else if c >= 210 {
		l = l[:max(len(l)-1, 0)]
	} else if c >= 190 {
		l = append(l, rising(c))
	}
	return l
}

func FuzzCalls(f *testing.F) {
	f.Add([]byte{})
	f.Add([]byte{12, 2, 0, 3, 2, 0, 5, 3, 0, 7, 4, 0, 0, 1, 0, 9, 0, 1, 0, 12, 0, 2, 2, 9})
	f.Add([]byte{6, 2, 0, 3, 250, 7, 253, 245, 240, 239, 2, 16, 5, 3, 16, 7, 252, 9, 9, 251, 200, 1})
	f.Add([]byte("some bytes that make up a log of many items with anchors, whatever these may be"))
	g := lineOf(2, 12)
	lines := [2]lineage{g, g.forked(4)}
	f.Fuzz(func(t *testing.T, b []byte) {
		p := tape(b)
		epoch := 2
		var l []api.Item
		for range p.next() % 16 {
			x := p.item(epoch, lines)
			epoch = x.Epoch
			l = append(l, x)
		}
		for range 4 {
			region := p.number(6)
			wantLatest(t, l, region)
			wantPlace(t, l, region, p.number(13))
			a, b := p.signed(lines), p.signed(lines)
			wantApart(t, "made-up heads", a, b, areApart(master, a, b))
			wantAny(t, &p, l, a, lines)
		}
	})
}

// wantAny asks for one head with the m that would do, and with a made-up one.
func wantAny(t *testing.T, p *tape, l []api.Item, s api.Signed, lines [2]lineage) {
	t.Helper()
	last, _ := latestIn(l, s.Head.Region)
	for _, m := range []int{last.Head.Size, p.number(13)} {
		proof := p.proof(lines, m, s.Head.Size)
		wantAdmit(t, "a made-up head", l, s, m, proof, admitted(master, l, s, m, proof))
	}
}

// A log that is laid by Admit alone: whatever comes, all of a region's heads in it are beginnings of one list.
func TestWhatIsAdmittedIsOfOneList(t *testing.T) {
	g := lineOf(2, 12)
	lines := [2]lineage{g, g.forked(4)}
	for seed := range 200 {
		var l []api.Item
		came := [2]bool{}
		for i := range 60 {
			which := (seed*31 + i*i*7 + i/3) % 5 % 2
			m, n := (seed+i*5)%13, (seed*3+i*11)%13
			if last, ok := anchors.Latest(l, 2); ok && i%3 > 0 {
				m = last.Head.Size
			}
			s := lines[which].signed(n, 1)
			proof := lines[which].proof(min(m, n), n)
			if anchors.Admit(master, l, s, m, proof) == api.OK {
				l = append(l, anchor(1, s))
				came[which] = came[which] || n > 4
			}
		}
		if came[0] && came[1] {
			t.Errorf("P13.4: two lists that are unlike were both admitted: %s", brief(l))
		}
		if !slices.IsSortedFunc(l, func(a, b api.Item) int { return a.Entry.Head.Head.Size - b.Entry.Head.Head.Size }) {
			t.Errorf("P13.4: what was admitted one behind the other does not grow: %s", brief(l))
		}
	}
}
