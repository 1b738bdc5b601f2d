package claims_test

import (
	"fmt"
	"math"
	"slices"

	"estreat/api"
)

// farOff are numbers that nothing here has; the lowest bytes of many would do.
var farOff = []int{
	math.MinInt, math.MinInt + 1, -1<<62 + 1, -1<<32 + 1, -1<<31 + 1, -65536 + 1, -256 + 1, -3, -2, -1,
	900000001, 1<<31 - 1, 1 << 31, 1<<32 + 1, 1<<40 + 1, 1<<62 - 1, 1 << 62, math.MaxInt - 1, math.MaxInt,
}

// rising has the bytes from c on, so that no two places are alike.
func rising(c int) [32]byte {
	var d [32]byte
	for i := range d {
		d[i] = byte(c + i)
	}
	return d
}

// claim is a right one, if region and epoch are; claims of two places are unlike in all that they have.
func claim(region, epoch int) api.Claim {
	return api.Claim{Region: region, Epoch: epoch, Node: 1 + (region+epoch)%3, Size: (7*region + epoch) % 1000, Root: rising(region + 5*epoch)}
}

func at(region, node int) api.Addr { return api.Addr{Region: region, Node: node} }

// made is n right claims: about as many of each region, with Epochs that have others between them.
func made(n int) []api.Claim {
	l := make([]api.Claim, 0, n)
	for i := range n {
		l = append(l, claim(1+i*5/n, 2+3*i))
	}
	return l
}

// changed is c with one thing about it changed.
func changed(c api.Claim, change func(*api.Claim)) api.Claim {
	change(&c)
	return c
}

// others are of c's Region and Epoch, right, and unlike it in one thing or in all.
func others(c api.Claim) []api.Claim {
	l := []api.Claim{{Region: c.Region, Epoch: c.Epoch, Node: 1 + c.Node%3, Size: c.Size + 1, Root: rising(99)}}
	for _, node := range []int{1, 2, 3} {
		l = append(l, changed(c, func(c *api.Claim) { c.Node = node }))
	}
	for _, size := range []int{0, c.Size + 1, 100000} {
		l = append(l, changed(c, func(c *api.Claim) { c.Size = size }))
	}
	for i := range 32 {
		l = append(l, changed(c, func(c *api.Claim) { c.Root[i] ^= 1 << (i % 8) }))
	}
	l = append(l, changed(c, func(c *api.Claim) { c.Root = api.Digest{} }))
	return slices.DeleteFunc(l, func(x api.Claim) bool { return x == c })
}

// edgeClaims are right, and each would not be if some number were a bit greater or less.
func edgeClaims() []api.Claim {
	return []api.Claim{
		{Region: 1, Epoch: 1, Node: 1},
		{Region: 5, Epoch: 900000000, Node: 3, Size: 100000, Root: rising(224)},
		{Region: 1, Epoch: 900000000, Node: 1, Size: 100000},
		{Region: 5, Epoch: 1, Node: 3, Root: rising(1)},
	}
}

// wrongClaims are right but for one thing; some are so in no way.
func wrongClaims() []api.Claim {
	l := []api.Claim{{}, {Root: rising(1)}, {Region: -1, Epoch: -1, Node: -1, Size: -1}, {Region: 6, Epoch: 900000001, Node: 4, Size: 100001}}
	for _, c := range append(edgeClaims(), claim(3, 258)) {
		for _, n := range append(farOff, 0, 6, 7, 257, 261) {
			l = append(l, changed(c, func(c *api.Claim) { c.Region = n }))
		}
		for _, n := range append(farOff, 0) {
			l = append(l, changed(c, func(c *api.Claim) { c.Epoch = n }))
		}
		for _, n := range append(farOff, 0, 4, 5, 257, 259) {
			l = append(l, changed(c, func(c *api.Claim) { c.Node = n }))
		}
		for _, n := range append(farOff, 100001, 131072) {
			l = append(l, changed(c, func(c *api.Claim) { c.Size = n }))
		}
	}
	return l
}

// claimIsRight is chapter 8's word, with the limits as DOC.md has them.
func claimIsRight(c api.Claim) bool {
	return c.Region >= 1 && c.Region <= 5 && c.Epoch >= 1 && c.Epoch <= 900000000 && c.Node >= 1 && c.Node <= 3 && c.Size >= 0 && c.Size <= 100000
}

// isAhead is this chapter's word for claims that rise.
func isAhead(a, b api.Claim) bool {
	return a.Region < b.Region || a.Region == b.Region && a.Epoch < b.Epoch
}

// claimsAreRight holds every claim against all that come behind it.
func claimsAreRight(l []api.Claim) bool {
	for i, c := range l {
		if !claimIsRight(c) {
			return false
		}
		for _, later := range l[i+1:] {
			if !isAhead(c, later) {
				return false
			}
		}
	}
	return true
}

// found is what Find is to answer.
func found(l []api.Claim, region, epoch int) (api.Claim, bool) {
	for _, c := range l {
		if c.Region == region && c.Epoch == epoch {
			return c, true
		}
	}
	return api.Claim{}, false
}

// withClaim is what Record is to answer: c stands where all ahead of it are less and all behind it greater.
func withClaim(l []api.Claim, c api.Claim) ([]api.Claim, api.Errno) {
	if !claimsAreRight(l) || !claimIsRight(c) {
		return nil, api.ErrClaimsForm
	}
	if there, ok := found(l, c.Region, c.Epoch); ok {
		if there != c {
			return nil, api.ErrClaimsOther
		}
		return l, api.OK
	}
	var out, behind []api.Claim
	for _, x := range l {
		if isAhead(x, c) {
			out = append(out, x)
		} else {
			behind = append(behind, x)
		}
	}
	return append(append(out, c), behind...), api.OK
}

// withAddr is what Add is to answer.
func withAddr(l []api.Addr, a api.Addr) []api.Addr {
	for _, x := range l {
		if x == a {
			return l
		}
	}
	var out []api.Addr
	laid := false
	for _, x := range l {
		if !laid && (a.Region < x.Region || a.Region == x.Region && a.Node < x.Node) {
			out = append(out, a)
			laid = true
		}
		out = append(out, x)
	}
	if !laid {
		out = append(out, a)
	}
	return out
}

// isEnough is what Enough is to answer, by tables of whom it takes.
func isEnough(regions, region int, l []api.Addr) bool {
	needed := map[int]int{3: 2, 4: 2, 5: 3}[regions]
	if needed == 0 || region < 1 || region > regions {
		return false
	}
	var node [6][4]bool
	for _, a := range l {
		if a.Region >= 1 && a.Region <= 5 && a.Node >= 1 && a.Node <= 3 {
			node[a.Region][a.Node] = true
		}
	}
	for r := 1; r <= regions; r++ {
		n := node[r]
		if r != region && (n[1] && n[2] || n[1] && n[3] || n[2] && n[3]) {
			needed--
		}
	}
	return needed <= 0
}

// chosen are those of l whose bit mask has.
func chosen[T any](l []T, mask int) []T {
	var out []T
	for i, x := range l {
		if mask>>i&1 == 1 {
			out = append(out, x)
		}
	}
	return out
}

// brief tells rows that may be very long.
func brief[T any](l []T) string {
	return fmt.Sprintf("%d: %+v", len(l), l[:min(len(l), 12)])
}

// othersOf are all nodes of the regions 1 to regions, but those of one.
func othersOf(regions, region int) []api.Addr {
	var l []api.Addr
	for r := 1; r <= regions; r++ {
		for node := 1; node <= 3 && r != region; node++ {
			l = append(l, at(r, node))
		}
	}
	return l
}
