package claims_test

import (
	"testing"

	"estreat/api"
	"estreat/claims"
)

// tape hands out made-up bytes one by one; behind its end all are 0.
type tape []byte

func (p *tape) next() int {
	if len(*p) == 0 {
		return 0
	}
	c := (*p)[0]
	*p = (*p)[1:]
	return int(c)
}

// number is mostly a small one, at times one of those that nothing has.
func (p *tape) number(most int) int {
	c := p.next()
	if c >= 236 {
		return farOff[(c-236)%len(farOff)]
	}
	return c % (most + 1)
}

// claim is mostly right, and one of few.
func (p *tape) claim() api.Claim {
	c := p.next()
	if c >= 250 {
		wrong := wrongClaims()
		return wrong[p.next()%len(wrong)]
	}
	x := claim(1+c%5, 1+c/5%8)
	if c >= 200 {
		other := others(x)
		return other[p.next()%len(other)]
	}
	return x
}

func (p *tape) addr() api.Addr { return at(p.number(6), p.number(4)) }

func FuzzCalls(f *testing.F) {
	f.Add([]byte{})
	f.Add([]byte{5, 7, 1, 2, 3, 4, 5, 6, 7, 8, 9, 250, 1, 201, 2, 33, 4, 3, 1, 2, 1, 2, 2, 3, 1, 3, 2})
	f.Add([]byte{20, 200, 100, 200, 3, 240, 230, 251, 9, 12, 236, 2, 237, 3, 1, 1, 255, 254})
	f.Add([]byte("some bytes that make up claims and addresses, whatever these may be"))
	f.Fuzz(func(t *testing.T, b []byte) {
		p := tape(b)
		var right, any []api.Claim
		for range p.next() % 24 {
			c := p.claim()
			wantRecord(t, right, c)
			if l, e := claims.Record(right, c); e == api.OK {
				right = l
			}
			any = append(any, c)
		}
		wantCheck(t, "made-up claims", right)
		wantCheck(t, "made-up claims", any)
		for range 3 {
			region, epoch := p.number(6), p.number(9)
			wantFind(t, right, region, epoch)
			wantFind(t, any, region, epoch)
			c := p.claim()
			wantRecord(t, right, c)
			wantRecord(t, any, c)
		}
		var row, rising []api.Addr
		for range p.next() % 24 {
			a := p.addr()
			wantAdd(t, row, a)
			wantAdd(t, rising, a)
			row, rising = append(row, a), claims.Add(rising, a)
		}
		for range 3 {
			regions, region := p.number(6), p.number(6)
			wantEnough(t, regions, region, row)
			if claims.Enough(regions, region, row) != claims.Enough(regions, region, rising) {
				t.Errorf("P12.3: Enough(%d, %d) of %v and of %v are unlike", regions, region, row, rising)
			}
		}
	})
}
