package tails_test

import (
	"testing"

	"estreat/api"
)

// tape hands out made-up bytes one by one; behind its end all are 0.
type tape []byte

func (p *tape) next() int {
	if len(*p) == 0 {
		return 0
	}
	c := (*p)[0]
	*p = (*p)[1:]
	return int(c)
}

// number is mostly about n, at times one of those that nothing has.
func (p *tape) number(n int) int {
	c := p.next()
	switch {
	case c >= 240:
		return farOff[(c-240)%len(farOff)]
	case c >= 200:
		return n - 1
	case c >= 120:
		return n + c%3
	}
	return n
}

// item is mostly right, and mostly of an epoch.
func (p *tape) item(epoch int) api.Item {
	c := p.next()
	if c >= 250 {
		wrong := wrongItems()
		return wrong[p.next()%len(wrong)]
	}
	epoch = p.number(epoch)
	switch c % 6 {
	case 0:
		return anchor(epoch)
	case 1, 2:
		return claimed(epoch, p.number(epoch), 1+p.next()%3)
	}
	return text(epoch, 1+p.next()%3, 1+p.next()%20, "made up"[:p.next()%8])
}

// tail is mostly right.
func (p *tape) tail() api.Tail {
	t := api.Tail{Node: p.number(1 + p.next()%3), Log: p.number(1 + p.next()%2)}
	if t.Log > 1 && p.next() < 200 {
		t.Items = append(t.Items, opening(t.Log, 1+p.next()%3))
	}
	for range p.next() % 5 {
		t.Items = append(t.Items, p.item(t.Log))
	}
	t.Commit = p.number(p.next() % (len(t.Items) + 1))
	return t
}

func FuzzCalls(f *testing.F) {
	f.Add([]byte{})
	f.Add([]byte{1, 9, 3, 3, 0, 1, 1, 4, 2, 0, 2, 7, 130, 0, 1, 0, 1, 1, 2, 3, 9, 8, 1, 1, 1, 0, 3, 200, 3, 3, 3, 3, 3})
	f.Add([]byte{7, 2, 6, 0, 5, 1, 1, 2, 3, 240, 250, 1, 251, 2, 3, 4, 5, 6, 200, 201, 100, 0, 120, 121, 122})
	f.Add([]byte("some bytes that make up tails, and claims by these, whatever they may be"))
	f.Fuzz(func(t *testing.T, b []byte) {
		p := tape(b)
		var l []api.Tail
		for range 6 {
			x := p.tail()
			wantChecked(t, "what is made up", x)
			c := wantClaimed(t, "what is made up", p.number(3), p.number(x.Log+1), p.number(2), x)
			wantOpen(t, "what is made up", x, c)
			if tailIsRight(x) && c.Epoch > x.Log {
				wantKept(t, "what is made up", x, c)
			}
			if p.next() < 128 {
				l = wantAdd(t, l, x)
			} else {
				l = append(l, x)
			}
			wantChoose(t, l)
			wantCommon(t, l)
		}
	})
}
