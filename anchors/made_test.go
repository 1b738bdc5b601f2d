package anchors_test

import (
	"crypto/hmac"
	"crypto/sha256"
	"fmt"
	"math"
	"math/big"
	"slices"
	"strings"

	"estreat/api"
)

// farOff are numbers that nothing here has; the lowest bytes of many would do.
var farOff = []int{
	math.MinInt, math.MinInt + 1, -1<<62 + 2, -1<<32 + 2, -1<<31 + 2, -65536 + 2, -256 + 2, -2, -1,
	900000001, 1<<31 - 1, 1 << 31, 1<<32 + 2, 1<<40 + 2, 1 << 62, math.MaxInt - 1, math.MaxInt,
}

var (
	master  = api.Key(rising(11))
	another = api.Key(rising(12))
	empty   = api.Digest(sha256.Sum256(nil))
)

// rising has the bytes from c on, so that no two places are alike.
func rising(c int) [32]byte {
	var d [32]byte
	for i := range d {
		d[i] = byte(c + i)
	}
	return d
}

func user(epoch, seq int) api.Item {
	return api.Item{Epoch: epoch, Entry: api.Entry{Kind: 1, Client: 1 + seq%3, Seq: seq, Text: "text"}}
}

func claim(epoch int) api.Item {
	return api.Item{Epoch: epoch, Entry: api.Entry{Kind: 3, Claim: api.Claim{Region: 2, Epoch: 258, Node: 2, Size: 3, Root: rising(40)}}}
}

func anchor(epoch int, s api.Signed) api.Item {
	return api.Item{Epoch: epoch, Entry: api.Entry{Kind: 2, Head: s}}
}

// loose is an anchor whose head is nobody's: what is in a log, no call here verifies.
func loose(region, epoch, size int) api.Item {
	return anchor(1, api.Signed{Head: api.Head{Region: region, Epoch: epoch, Size: size, Root: rising(size), Tick: size}, Node: 1 + size%3, Tag: rising(region)})
}

// filled is a right log of n items of epoch 1, none of which is an anchor.
func filled(n int) []api.Item {
	var l []api.Item
	for i := range n {
		if i%4 == 3 {
			l = append(l, claim(1))
		} else {
			l = append(l, user(1, 1+i))
		}
	}
	return l
}

// behind is l and items behind it, in new memory.
func behind(l []api.Item, more ...api.Item) []api.Item {
	return slices.Concat(l, more)
}

// wrongLogs are of each kind that there is of wrong ones, all with an anchor of region 2, of epoch 1 and size 3.
func wrongLogs() map[string][]api.Item {
	a := loose(2, 1, 3)
	wrongHead := loose(6, 1, 3)
	hasText := loose(2, 1, 3)
	hasText.Entry.Text = "x"
	return map[string][]api.Item{
		"2001 items":              behind(filled(2000), a),
		"a zero item first":       {{}, a},
		"a zero item last":        {a, {}},
		"a wrong item in midst":   {a, {Epoch: 1}, a},
		"a wrong user's":          {a, {Epoch: 1, Entry: api.Entry{Kind: 1, Client: 4, Seq: 1}}},
		"an anchor of region 6":   {a, wrongHead},
		"an anchor with a text":   {hasText},
		"an Epoch of 0":           {user(0, 1), a},
		"an Epoch above all":      {a, user(900000001, 1)},
		"an Epoch that falls":     {user(2, 1), a},
		"a kind that there isn't": {a, {Epoch: 1, Entry: api.Entry{Kind: 4}}},
	}
}

// lineage is a region's list of leaves, of whose beginnings heads and proofs are told.
type lineage struct {
	region int
	leaves []api.Digest
}

func lineOf(region, n int) lineage {
	g := lineage{region: region}
	for i := range n {
		g.leaves = append(g.leaves, sha256.Sum256(fmt.Append(nil, "leaf ", i)))
	}
	return g
}

// forked is another list, from its place at on.
func (g lineage) forked(at int) lineage {
	g.leaves = slices.Clone(g.leaves)
	for i := at; i < len(g.leaves); i++ {
		g.leaves[i][0] ^= 128
	}
	return g
}

func (g lineage) head(size, epoch int) api.Head {
	return api.Head{Region: g.region, Epoch: epoch, Size: size, Root: rootOf(g.leaves[:size]), Tick: 7 * size}
}

func (g lineage) signed(size, epoch int) api.Signed {
	return signed(master, g.head(size, epoch), 1+size%3)
}

func (g lineage) proof(m, n int) []api.Digest {
	return consistencyOf(g.leaves[:n], m, true)
}

// log is items of epoch 1 and, as the last one, an anchor of that head.
func (g lineage) log(size, epoch int) []api.Item {
	return behind(filled(3), anchor(1, g.signed(size, epoch)))
}

// turned has one bit of a digest turned.
func turned(d api.Digest, bit int) api.Digest {
	d[bit/8] ^= 1 << (bit % 8)
	return d
}

// changed is s with one thing about it changed, and the tag left as it was.
func changed(s api.Signed, change func(*api.Signed)) api.Signed {
	change(&s)
	return s
}

// wrongHeads are right but for one thing; each is signed as it is, as far as there is a key.
func wrongHeads(h api.Head) []api.Signed {
	var l []api.Signed
	add := func(node int, change func(*api.Head)) {
		x := h
		change(&x)
		l = append(l, signed(master, x, node))
	}
	for _, n := range append(farOff, 0, 4, 5, 257) {
		add(n, func(*api.Head) {})
	}
	for _, n := range append(farOff, 0, 6, 7, 257) {
		add(1, func(h *api.Head) { h.Region = n })
	}
	for _, n := range append(farOff, 0) {
		add(1, func(h *api.Head) { h.Epoch = n })
	}
	for _, n := range append(farOff, 100001) {
		add(1, func(h *api.Head) { h.Size = n })
	}
	for _, n := range farOff {
		add(1, func(h *api.Head) { h.Tick = n })
	}
	return append(l, api.Signed{}, api.Signed{Head: h}, api.Signed{Node: 1, Tag: rising(1)})
}

// strangeTags are of heads that may be, and whose tag is not what the node's key makes of them.
func strangeTags(s api.Signed) []api.Signed {
	l := []api.Signed{
		changed(s, func(s *api.Signed) { s.Node = 1 + s.Node%3 }),
		changed(s, func(s *api.Signed) { s.Tag = api.Digest{} }),
		changed(s, func(s *api.Signed) { s.Tag = signed(another, s.Head, s.Node).Tag }),
		changed(s, func(s *api.Signed) { s.Tag = signed(master, s.Head, 1+s.Node%3).Tag }),
		changed(s, func(s *api.Signed) { s.Head.Tick++ }),
		changed(s, func(s *api.Signed) { s.Head.Epoch++ }),
		changed(s, func(s *api.Signed) { s.Head.Size++ }),
		changed(s, func(s *api.Signed) { s.Head.Region = 1 + s.Head.Region%5 }),
		changed(s, func(s *api.Signed) { s.Head.Root = turned(s.Head.Root, 255) }),
	}
	for bit := range 256 {
		l = append(l, changed(s, func(s *api.Signed) { s.Tag = turned(s.Tag, bit) }))
	}
	return l
}

// brief tells a thing whose text may be very long.
func brief(x any) string {
	s := strings.ToValidUTF8(fmt.Sprintf("%+v", x), "?")
	return s[:min(len(s), 600)]
}

// The chapters' words, in their own numbers, with the library's sums.

func latestIn(l []api.Item, region int) (api.Signed, bool) {
	var last api.Signed
	count := 0
	for _, x := range l {
		if x.Entry.Kind == 2 && x.Entry.Head.Head.Region == region {
			last = x.Entry.Head
			count++
		}
	}
	return last, count > 0
}

func placeIn(l []api.Item, region, size int) (int, bool) {
	i := slices.IndexFunc(l, func(x api.Item) bool {
		return x.Entry.Kind == 2 && x.Entry.Head.Head.Region == region && x.Entry.Head.Head.Size > size
	})
	return max(i, 0), i >= 0
}

func admitted(key api.Key, l []api.Item, s api.Signed, m int, proof []api.Digest) api.Errno {
	if !logIsRight(l) {
		return 120
	}
	if e := verified(key, s); e != 0 {
		return e
	}
	epoch, size, root := 0, 0, empty
	if last, ok := latestIn(l, s.Head.Region); ok {
		epoch, size, root = last.Head.Epoch, last.Head.Size, last.Head.Root
	}
	if s.Head.Epoch < epoch || s.Head.Size < size || m != size {
		return 122
	}
	if !goesOn(m, root, s.Head.Size, s.Head.Root, proof) {
		return 121
	}
	return 0
}

func areApart(key api.Key, a, b api.Signed) bool {
	one, other := a.Head, b.Head
	one.Tick, other.Tick = 0, 0
	roots := one.Root != other.Root
	one.Root, other.Root = api.Digest{}, api.Digest{}
	return verified(key, a) == 0 && verified(key, b) == 0 && one == other && roots
}

func verified(key api.Key, s api.Signed) api.Errno {
	if !headIsRight(s.Head) || s.Node < 1 || s.Node > 3 {
		return 70
	}
	if signed(key, s.Head, s.Node).Tag != s.Tag {
		return 72
	}
	return 0
}

func itemIsRight(x api.Item) bool {
	e := x.Entry
	noUser := e.Client == 0 && e.Seq == 0 && e.Text == ""
	noHead := e.Head == api.Signed{}
	noClaim := e.Claim == api.Claim{}
	if x.Epoch < 1 || x.Epoch > 900000000 {
		return false
	}
	if e.Kind == 1 {
		return e.Client >= 1 && e.Client <= 3 && e.Seq >= 1 && e.Seq <= 1000000 && len(e.Text) <= 200 && noHead && noClaim
	}
	if e.Kind == 2 {
		return noUser && noClaim && headIsRight(e.Head.Head) && e.Head.Node >= 1 && e.Head.Node <= 3
	}
	c := e.Claim
	return e.Kind == 3 && noUser && noHead && c.Region >= 1 && c.Region <= 5 && c.Epoch >= 1 && c.Epoch <= 900000000 && c.Node >= 1 && c.Node <= 3 && c.Size >= 0 && c.Size <= 100000
}

func headIsRight(h api.Head) bool {
	return h.Region >= 1 && h.Region <= 5 && h.Epoch >= 1 && h.Epoch <= 900000000 && h.Size >= 0 && h.Size <= 100000 && h.Tick >= 0 && h.Tick <= 900000000
}

func logIsRight(l []api.Item) bool {
	falls := false
	wrong := false
	for i, x := range l {
		falls = falls || i > 0 && l[i-1].Epoch > x.Epoch
		wrong = wrong || !itemIsRight(x)
	}
	return len(l) <= 2000 && !wrong && !falls
}

// signed has the tag that chapters 6 and 7 make, also of what may not be.
func signed(key api.Key, h api.Head, node int) api.Signed {
	own := mac(key, string([]byte{75, byte(h.Region), byte(node)}))
	return api.Signed{Head: h, Node: node, Tag: mac(own, "head "+headBytes(h))}
}

func mac(key [32]byte, data string) [32]byte {
	h := hmac.New(sha256.New, key[:])
	h.Write([]byte(data))
	return [32]byte(h.Sum(nil))
}

func headBytes(h api.Head) string {
	var b strings.Builder
	for i, data := range []string{number(h.Region), number(h.Epoch), number(h.Size), string(h.Root[:]), number(h.Tick)} {
		b.Write([]byte{byte(i + 1), 0, 0, byte(len(data))})
		b.WriteString(data)
	}
	return b.String()
}

// number is n's bytes, worked out by the library.
func number(n int) string { return string(big.NewInt(int64(n)).Bytes()) }

func knot(a, b api.Digest) api.Digest {
	return sha256.Sum256(slices.Concat([]byte{1}, a[:], b[:]))
}

// halves is where a list of two or more is parted.
func halves(l []api.Digest) ([]api.Digest, []api.Digest) {
	split := 1
	for split*2 < len(l) {
		split *= 2
	}
	return l[:split], l[split:]
}

func rootOf(l []api.Digest) api.Digest {
	if len(l) == 0 {
		return empty
	}
	if len(l) == 1 {
		return l[0]
	}
	left, right := halves(l)
	return knot(rootOf(left), rootOf(right))
}

func consistencyOf(l []api.Digest, m int, known bool) []api.Digest {
	if m == 0 || m == len(l) && known {
		return nil
	}
	if m == len(l) {
		return []api.Digest{rootOf(l)}
	}
	left, right := halves(l)
	if m <= len(left) {
		return append(consistencyOf(left, m, known), rootOf(right))
	}
	return append(consistencyOf(right, m-len(left), false), rootOf(left))
}

// goesOn is chapter 5's for 0 <= m <= n; a proof is gone through from the leaves up, as RFC 9162 (2.1.4.2) has it done.
func goesOn(m int, old api.Digest, n int, root api.Digest, proof []api.Digest) bool {
	if m == 0 {
		return len(proof) == 0 && old == empty && (n > 0 || root == empty)
	}
	if m == n {
		return len(proof) == 0 && old == root
	}
	if m&(m-1) == 0 {
		proof = slices.Concat([]api.Digest{old}, proof)
	}
	if len(proof) == 0 {
		return false
	}
	at, last := m-1, n-1
	for at&1 == 1 {
		at, last = at>>1, last>>1
	}
	first, all := proof[0], proof[0]
	for _, p := range proof[1:] {
		if last == 0 {
			return false
		}
		if at&1 == 1 || at == last {
			first, all = knot(p, first), knot(p, all)
			for at&1 == 0 && at != 0 {
				at, last = at>>1, last>>1
			}
		} else {
			all = knot(all, p)
		}
		at, last = at>>1, last>>1
	}
	return last == 0 && first == old && all == root
}
