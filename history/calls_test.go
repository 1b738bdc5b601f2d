package history_test

import (
	"testing"

	"estreat/api"
	"estreat/history"
)

// tape hands out made-up bytes one by one; behind its end all are 0.
type tape []byte

func (p *tape) next() int {
	if len(*p) == 0 {
		return 0
	}
	c := (*p)[0]
	*p = (*p)[1:]
	return int(c)
}

// number is mostly a small one, at times one of those that nothing has.
func (p *tape) number() int {
	c := p.next()
	if c >= 236 {
		return farOff[(c-236)%len(farOff)]
	}
	return c % 12
}

// item is mostly right; its Epoch mostly stays or rises.
func (p *tape) item(epoch int) api.Item {
	c := p.next()
	if c >= 250 {
		wrong := wrongItems()
		return wrong[p.next()%len(wrong)]
	}
	if c >= 240 {
		epoch--
	}
	if c%8 == 7 {
		epoch++
	}
	switch c % 6 {
	case 0:
		return anchor(epoch)
	case 1:
		return claim(epoch)
	}
	return text(epoch, 1+p.next()%3, 1+p.next()%20, "made up"[:p.next()%8])
}

func FuzzCalls(f *testing.F) {
	f.Add([]byte{})
	f.Add([]byte{12, 2, 0, 1, 0, 3, 1, 4, 5, 0, 0, 1, 7, 2, 2, 2, 8, 9, 3, 3, 3})
	f.Add([]byte{3, 2, 0, 1, 0, 2, 0, 1, 0, 251, 7, 245, 240, 239})
	f.Add([]byte("some bytes that make up a log of many items, whatever these may be"))
	f.Fuzz(func(t *testing.T, b []byte) {
		p := tape(b)
		epoch := 1 + p.next()%3
		var l []api.Item
		for range p.next() % 24 {
			x := p.item(epoch)
			epoch = x.Epoch
			l = append(l, x)
		}
		wantCheck(t, "a made-up log", l)
		for range 3 {
			wantFind(t, l, p.number(), p.number())
			x := p.item(epoch)
			wantMay(t, l, x, mayCome(l, x))
			wantAny(t, l, p.number(), p.number())
			wantAny(t, l, len(l), p.number())
		}
	})
}

// wantAny holds the four calls that tell roots and proofs against the words, whatever they are asked.
func wantAny(t *testing.T, l []api.Item, n, k int) {
	t.Helper()
	err := api.OK
	if !logIsRight(l) {
		err = api.ErrHistoryForm
	} else if n < 0 || n > len(l) {
		err = api.ErrTreeSize
	}
	if err != api.OK {
		wantRefused(t, l, n, err)
		wantInclusion(t, l, n, k, nil, err)
		wantConsistency(t, l, k, n, nil, err)
		wantHead(t, l, n, k, 1, k, api.Head{}, err)
		return
	}
	leaves := leavesOf(l)
	root := wantAt(t, l, leaves, n)
	h := api.Head{Region: k, Epoch: 1, Size: n, Root: root, Tick: k}
	if headIsRight(h) {
		wantHead(t, l, n, k, 1, k, h, api.OK)
	} else {
		wantHead(t, l, n, k, 1, k, api.Head{}, api.ErrHistoryForm)
	}
	if 0 <= k && k < n {
		wantIncluded(t, l, leaves, root, n, k)
	} else {
		wantInclusion(t, l, n, k, nil, api.ErrTreeIndex)
	}
	if 0 <= k && k <= n {
		wantConsistent(t, l, leaves, root, k, n)
	} else {
		wantConsistency(t, l, k, n, nil, api.ErrTreeSize)
	}
}

// The calls of the whole once more, on logs of each length up to where a tree has five levels.
func TestCallsOfEachLength(t *testing.T) {
	for size := range 18 {
		l := made(size)
		for n := -1; n <= size+1; n++ {
			for k := -1; k <= size+1; k++ {
				wantAny(t, l, n, k)
			}
		}
		if e := history.Check(l); e != api.OK {
			t.Errorf("P11.1: Check of %d items is %d", size, e)
		}
	}
}
