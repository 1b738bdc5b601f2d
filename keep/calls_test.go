package keep_test

import (
	"testing"

	"estreat/api"
	"estreat/keep"
)

// tape hands out made-up bytes one by one; behind its end all are 0.
type tape []byte

func (p *tape) next() int {
	if len(*p) == 0 {
		return 0
	}
	c := (*p)[0]
	*p = (*p)[1:]
	return int(c)
}

// number is mostly about n, at times one of those that nothing has.
func (p *tape) number(n int) int {
	c := p.next()
	switch {
	case c >= 240:
		return farOff[(c-240)%len(farOff)]
	case c >= 200:
		return n - 1
	case c >= 120:
		return n + c%3
	}
	return n
}

// item is mostly right, and mostly of an epoch.
func (p *tape) item(epoch int) api.Item {
	c := p.next()
	if c >= 250 {
		wrong := wrongItems()
		return wrong[p.next()%len(wrong)]
	}
	epoch = p.number(epoch)
	switch c % 6 {
	case 0:
		return anchor(epoch)
	case 1, 2:
		return claimed(epoch, p.number(epoch), 1+p.next()%3)
	}
	return text(epoch, 1+p.next()%3, 1+p.next()%20, "made up"[:p.next()%8])
}

func (p *tape) claim() api.Claim {
	c := claim(1+p.next()%5, 1+p.next()%4)
	if p.next() >= 200 {
		c.Node = p.number(2)
	}
	return c
}

func (p *tape) items(epoch int) []api.Item {
	var l []api.Item
	for range p.next() % 6 {
		l = append(l, p.item(epoch))
	}
	return l
}

// record is mostly of the parts that its Kind has, and about what is kept.
func (p *tape) record(k api.Kept) api.Record {
	c := p.next()
	if c >= 250 {
		return api.Record{Kind: api.RecordKind(p.number(3)), Epoch: p.number(k.Epoch), From: p.number(0), Item: p.item(k.Log), Items: p.items(k.Log), Claim: p.claim()}
	}
	switch c % 5 {
	case 0:
		return epochRecord(p.number(k.Epoch))
	case 1:
		return claimRecord(p.claim())
	case 2:
		epoch := p.number(k.Epoch)
		return adoptRecord(epoch, p.number(p.next()%(len(k.Items)+1)), p.items(epoch)...)
	}
	return itemRecord(p.item(k.Log))
}

func FuzzCalls(f *testing.F) {
	f.Add([]byte{})
	f.Add([]byte{1, 9, 3, 3, 0, 1, 1, 4, 2, 0, 2, 7, 130, 0, 1, 0, 1, 1, 2, 3, 9, 8, 1, 1, 1, 0, 3, 200, 3, 3, 3, 3, 3})
	f.Add([]byte{7, 2, 6, 0, 5, 1, 1, 2, 3, 240, 250, 1, 251, 2, 3, 4, 5, 6, 200, 201, 100, 0, 120, 121, 122})
	f.Add([]byte("some bytes that make up what is kept, and records, whatever these may be"))
	f.Fuzz(func(t *testing.T, b []byte) {
		p := tape(b)
		loose := api.Kept{Epoch: p.number(5), Log: p.number(2)}
		loose.Items = p.items(loose.Log)
		for range p.next() % 4 {
			loose.Claims = append(loose.Claims, p.claim())
		}
		wantRightness(t, "what is made up", loose)
		k := keep.New()
		for range 12 {
			r := p.record(k)
			wantFolded(t, "what is made up", loose, r)
			k = wantFolded(t, "what comes of records", k, r)
			if recordMayBe(r) {
				wantLaid(t, r)
			} else if s, e := keep.PutRecord(r); s != "" || e != api.ErrKeepForm {
				t.Errorf("P15.3: PutRecord is % x, %d of %s", cut(s), e, brief(r))
			}
		}
	})
}

func FuzzGetRecord(f *testing.F) {
	f.Add("")
	for _, r := range plainRecords() {
		s, _ := keep.PutRecord(r)
		f.Add(s)
	}
	f.Fuzz(func(t *testing.T, s string) { wantRead(t, "a made-up text", s) })
}
