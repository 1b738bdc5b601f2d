package path_test

import (
	"crypto/hmac"
	"crypto/sha256"
	"fmt"
	"math"
	"math/big"
	"slices"
	"strings"

	"estreat/api"
)

// farOff are numbers that nothing here has; the lowest bytes of many would do.
var farOff = []int{
	math.MinInt, math.MinInt + 1, -1<<62 + 2, -1<<32 + 2, -1<<31 + 2, -65536 + 2, -256 + 2, -2, -1,
	900000001, 1<<31 - 1, 1 << 31, 1<<32 + 2, 1<<40 + 2, 1 << 62, math.MaxInt - 1, math.MaxInt,
}

var (
	master  = api.Key(rising(11))
	another = api.Key(rising(12))
	empty   = api.Digest(sha256.Sum256(nil))
)

// rising has the bytes from c on, so that no two places are alike.
func rising(c int) [32]byte {
	var d [32]byte
	for i := range d {
		d[i] = byte(c + i)
	}
	return d
}

func user(epoch, seq int) api.Item {
	return api.Item{Epoch: epoch, Entry: api.Entry{Kind: 1, Client: 1 + seq%3, Seq: seq, Text: "text"}}
}

func claim(epoch int) api.Item {
	return api.Item{Epoch: epoch, Entry: api.Entry{Kind: 3, Claim: api.Claim{Region: 2, Epoch: 258, Node: 2, Size: 3, Root: rising(40)}}}
}

func anchor(epoch int, s api.Signed) api.Item {
	return api.Item{Epoch: epoch, Entry: api.Entry{Kind: 2, Head: s}}
}

// strange is a head that may be, and that nobody signed.
var strange = api.Signed{Head: api.Head{Region: 4, Epoch: 258, Size: 70000, Root: rising(50), Tick: 900000000}, Node: 2, Tag: rising(60)}

// filled is a right log of n items of epoch 1: of all kinds, and no two alike.
func filled(n int) []api.Item {
	var l []api.Item
	for i := range n {
		switch i % 5 {
		case 3:
			x := claim(1)
			x.Entry.Claim.Size = i
			l = append(l, x)
		case 4:
			l = append(l, anchor(1, changed(strange, func(s *api.Signed) { s.Head.Size = i })))
		default:
			l = append(l, user(1, 1+i))
		}
	}
	return l
}

// behind is l and items behind it, in new memory.
func behind(l []api.Item, more ...api.Item) []api.Item {
	return slices.Concat(l, more)
}

// headOf is the head of a log's first n, of region 2.
func headOf(l []api.Item, n int) api.Head {
	return api.Head{Region: 2, Epoch: 3, Size: n, Root: rootOf(leavesOf(l[:n])), Tick: 7 * n}
}

// signedOf is that head, signed by some node.
func signedOf(l []api.Item, n int) api.Signed {
	return signed(master, headOf(l, n), 1+n%3)
}

// stepOf is the step of what stands at i in the first n, whether the log is right or not.
func stepOf(l []api.Item, i, n int) api.Step {
	return api.Step{Index: i, Item: l[i], Proof: inclusionOf(leavesOf(l[:n]), i), Head: signedOf(l, n)}
}

// turned has one bit of a digest turned.
func turned(d api.Digest, bit int) api.Digest {
	d[bit/8] ^= 1 << (bit % 8)
	return d
}

// changed is s with one thing about it changed, and the tag left as it was.
func changed(s api.Signed, change func(*api.Signed)) api.Signed {
	change(&s)
	return s
}

// wrongHeads are right but for one thing; each is signed as it is, as far as there is a key.
func wrongHeads(h api.Head) []api.Signed {
	var l []api.Signed
	add := func(node int, change func(*api.Head)) {
		x := h
		change(&x)
		l = append(l, signed(master, x, node))
	}
	for _, n := range slices.Concat(farOff, []int{0, 4, 5, 257}) {
		add(n, func(*api.Head) {})
	}
	for _, n := range slices.Concat(farOff, []int{0, 6, 7, 257}) {
		add(1, func(h *api.Head) { h.Region = n })
	}
	for _, n := range slices.Concat(farOff, []int{0}) {
		add(1, func(h *api.Head) { h.Epoch = n })
	}
	for _, n := range slices.Concat(farOff, []int{100001}) {
		add(1, func(h *api.Head) { h.Size = n })
	}
	for _, n := range farOff {
		add(1, func(h *api.Head) { h.Tick = n })
	}
	return append(l, api.Signed{}, api.Signed{Head: h}, api.Signed{Node: 1, Tag: rising(1)})
}

// strangeTags are of heads that may be, and whose tag is not what the node's key makes of them.
func strangeTags(s api.Signed) []api.Signed {
	l := []api.Signed{
		changed(s, func(s *api.Signed) { s.Node = 1 + s.Node%3 }),
		changed(s, func(s *api.Signed) { s.Tag = api.Digest{} }),
		changed(s, func(s *api.Signed) { s.Tag = signed(another, s.Head, s.Node).Tag }),
		changed(s, func(s *api.Signed) { s.Tag = signed(master, s.Head, 1+s.Node%3).Tag }),
		changed(s, func(s *api.Signed) { s.Head.Tick++ }),
		changed(s, func(s *api.Signed) { s.Head.Epoch++ }),
		changed(s, func(s *api.Signed) { s.Head.Size++ }),
		changed(s, func(s *api.Signed) { s.Head.Region = 1 + s.Head.Region%5 }),
		changed(s, func(s *api.Signed) { s.Head.Root = turned(s.Head.Root, 255) }),
	}
	for bit := range 256 {
		l = append(l, changed(s, func(s *api.Signed) { s.Tag = turned(s.Tag, bit) }))
	}
	return l
}

// wrongItems are right but for one thing.
func wrongItems() map[string]api.Item {
	with := func(x api.Item, change func(*api.Item)) api.Item {
		change(&x)
		return x
	}
	u, a, c := user(1, 1), anchor(1, strange), claim(1)
	return map[string]api.Item{
		"a zero item":               {},
		"an Epoch of 0":             user(0, 1),
		"an Epoch below 0":          user(-1, 1),
		"an Epoch above all":        user(900000001, 1),
		"no kind":                   with(u, func(x *api.Item) { x.Entry.Kind = 0 }),
		"a kind that there isn't":   with(u, func(x *api.Item) { x.Entry.Kind = 4 }),
		"a kind below 0":            with(u, func(x *api.Item) { x.Entry.Kind = -1 }),
		"a client 0":                with(u, func(x *api.Item) { x.Entry.Client = 0 }),
		"a client 4":                with(u, func(x *api.Item) { x.Entry.Client = 4 }),
		"a Seq of 0":                with(u, func(x *api.Item) { x.Entry.Seq = 0 }),
		"a Seq above all":           with(u, func(x *api.Item) { x.Entry.Seq = 1000001 }),
		"a text of 201 bytes":       with(u, func(x *api.Item) { x.Entry.Text = strings.Repeat("x", 201) }),
		"a user's with a head":      with(u, func(x *api.Item) { x.Entry.Head = strange }),
		"a user's with a claim":     with(u, func(x *api.Item) { x.Entry.Claim = c.Entry.Claim }),
		"an anchor of region 6":     with(a, func(x *api.Item) { x.Entry.Head.Head.Region = 6 }),
		"an anchor of node 0":       with(a, func(x *api.Item) { x.Entry.Head.Node = 0 }),
		"an anchor with a text":     with(a, func(x *api.Item) { x.Entry.Text = "x" }),
		"an anchor with a Seq":      with(a, func(x *api.Item) { x.Entry.Seq = 1 }),
		"an anchor with a claim":    with(a, func(x *api.Item) { x.Entry.Claim = c.Entry.Claim }),
		"a claim's with a head":     with(c, func(x *api.Item) { x.Entry.Head = strange }),
		"a claim's of node 4":       with(c, func(x *api.Item) { x.Entry.Claim.Node = 4 }),
		"a claim's that has no one": {Epoch: 1, Entry: api.Entry{Kind: 3}},
	}
}

// wrongLogs have each kind of wrong thing at the place 4 or behind it; the first 4 items of all are those of filled.
func wrongLogs() map[string][]api.Item {
	l := map[string][]api.Item{
		"2001 items":            filled(2001),
		"an Epoch that falls":   behind(filled(4), user(2, 90), user(1, 91)),
		"an Epoch falls by one": behind(filled(4), user(900000000, 90), user(899999999, 91), user(900000000, 92)),
	}
	for what, x := range wrongItems() {
		l[what+", last"] = behind(filled(4), x)
		l[what+", in the midst"] = behind(filled(4), x, user(1, 90))
	}
	return l
}

// brief tells a thing whose text may be very long.
func brief(x any) string {
	s := strings.ToValidUTF8(fmt.Sprintf("%+v", x), "?")
	return s[:min(len(s), 900)]
}

func same(a, b api.Step) bool {
	return a.Index == b.Index && a.Item == b.Item && a.Head == b.Head && slices.Equal(a.Proof, b.Proof)
}

// The chapters' words, in their own numbers, with the library's sums.

func made(l []api.Item, i int, s api.Signed) (api.Step, api.Errno) {
	if !logIsRight(l) || !mayBe(s) || s.Head.Size > len(l) {
		return api.Step{}, 130
	}
	leaves := leavesOf(l[:s.Head.Size])
	if rootOf(leaves) != s.Head.Root {
		return api.Step{}, 130
	}
	if i < 0 || i > s.Head.Size-1 {
		return api.Step{}, 131
	}
	return api.Step{Index: i, Item: l[i], Proof: inclusionOf(leaves, i), Head: s}, 0
}

func walked(key api.Key, p []api.Step) api.Errno {
	if len(p) == 0 || len(p) > 5 {
		return 130
	}
	for i, s := range p {
		if e := verified(key, s.Head); e != 0 {
			return e
		}
		if !itemIsRight(s.Item) {
			return 130
		}
		if e := included(s.Head.Head.Root, s.Head.Head.Size, s.Index, leafOf(s.Item), s.Proof); e != 0 {
			return e
		}
		if i > 0 && s.Item.Entry != (api.Entry{Kind: 2, Head: p[i-1].Head}) {
			return 130
		}
	}
	return 0
}

func verified(key api.Key, s api.Signed) api.Errno {
	if !mayBe(s) {
		return 70
	}
	if signed(key, s.Head, s.Node).Tag != s.Tag {
		return 72
	}
	return 0
}

func mayBe(s api.Signed) bool {
	return headIsRight(s.Head) && s.Node >= 1 && s.Node <= 3
}

func headIsRight(h api.Head) bool {
	return h.Region >= 1 && h.Region <= 5 && h.Epoch >= 1 && h.Epoch <= 900000000 && h.Size >= 0 && h.Size <= 100000 && h.Tick >= 0 && h.Tick <= 900000000
}

func itemIsRight(x api.Item) bool {
	e := x.Entry
	noUser := e.Client == 0 && e.Seq == 0 && e.Text == ""
	noHead := e.Head == api.Signed{}
	noClaim := e.Claim == api.Claim{}
	if x.Epoch < 1 || x.Epoch > 900000000 {
		return false
	}
	if e.Kind == 1 {
		return e.Client >= 1 && e.Client <= 3 && e.Seq >= 1 && e.Seq <= 1000000 && len(e.Text) <= 200 && noHead && noClaim
	}
	if e.Kind == 2 {
		return noUser && noClaim && mayBe(e.Head)
	}
	c := e.Claim
	return e.Kind == 3 && noUser && noHead && c.Region >= 1 && c.Region <= 5 && c.Epoch >= 1 && c.Epoch <= 900000000 && c.Node >= 1 && c.Node <= 3 && c.Size >= 0 && c.Size <= 100000
}

func logIsRight(l []api.Item) bool {
	falls := false
	wrong := false
	for i, x := range l {
		falls = falls || i > 0 && l[i-1].Epoch > x.Epoch
		wrong = wrong || !itemIsRight(x)
	}
	return len(l) <= 2000 && !wrong && !falls
}

// signed has the tag that chapters 6 and 7 make, also of what may not be.
func signed(key api.Key, h api.Head, node int) api.Signed {
	own := mac(key, string([]byte{75, byte(h.Region), byte(node)}))
	return api.Signed{Head: h, Node: node, Tag: mac(own, "head "+headBytes(h))}
}

func mac(key [32]byte, data string) [32]byte {
	h := hmac.New(sha256.New, key[:])
	h.Write([]byte(data))
	return [32]byte(h.Sum(nil))
}

// number is n's bytes, worked out by the library.
func number(n int) string { return string(big.NewInt(int64(n)).Bytes()) }

// row is the bytes of fields, each a tag and what it has.
func row(fields ...any) string {
	var b strings.Builder
	for i := 0; i < len(fields); i += 2 {
		data := ""
		switch x := fields[i+1].(type) {
		case int:
			data = number(x)
		case string:
			data = x
		case api.Digest:
			data = string(x[:])
		}
		n := len(data)
		b.Write([]byte{byte(fields[i].(int)), byte(n >> 16), byte(n >> 8), byte(n)})
		b.WriteString(data)
	}
	return b.String()
}

func headBytes(h api.Head) string {
	return row(1, h.Region, 2, h.Epoch, 3, h.Size, 4, h.Root, 5, h.Tick)
}

// itemBytes are chapter 8's of a right item.
func itemBytes(x api.Item) string {
	e := x.Entry
	switch e.Kind {
	case 1:
		return row(1, x.Epoch, 2, row(1, 1, 2, e.Client, 3, e.Seq, 4, e.Text))
	case 2:
		s := row(1, headBytes(e.Head.Head), 2, e.Head.Node, 3, e.Head.Tag)
		return row(1, x.Epoch, 2, row(1, 2, 5, s))
	}
	c := e.Claim
	return row(1, x.Epoch, 2, row(1, 3, 6, row(1, c.Region, 2, c.Epoch, 3, c.Node, 4, c.Size, 5, c.Root)))
}

func leafOf(x api.Item) api.Digest {
	return sha256.Sum256([]byte("\x00" + itemBytes(x)))
}

func leavesOf(l []api.Item) []api.Digest {
	var out []api.Digest
	for _, x := range l {
		out = append(out, leafOf(x))
	}
	return out
}

func knot(a, b api.Digest) api.Digest {
	return sha256.Sum256(slices.Concat([]byte{1}, a[:], b[:]))
}

// halves is where a list of two or more is parted.
func halves(l []api.Digest) ([]api.Digest, []api.Digest) {
	split := 1
	for split*2 < len(l) {
		split *= 2
	}
	return l[:split], l[split:]
}

func rootOf(l []api.Digest) api.Digest {
	if len(l) == 0 {
		return empty
	}
	if len(l) == 1 {
		return l[0]
	}
	left, right := halves(l)
	return knot(rootOf(left), rootOf(right))
}

func inclusionOf(l []api.Digest, i int) []api.Digest {
	if len(l) == 1 {
		return nil
	}
	left, right := halves(l)
	if i < len(left) {
		return append(inclusionOf(left, i), rootOf(right))
	}
	return append(inclusionOf(right, i-len(left)), rootOf(left))
}

// included is chapter 5's.
func included(root api.Digest, size, index int, leaf api.Digest, proof []api.Digest) api.Errno {
	if size < 1 || size > 100000 || index < 0 || index > size-1 {
		return 40
	}
	made, whole := makes(size, index, leaf, proof)
	if !whole {
		return 40
	}
	if made != root {
		return 41
	}
	return 0
}

// makes goes through a proof from the leaf up, as RFC 9162 (2.1.3.2) has it done, and tells whether it has as many digests as it must.
func makes(size, index int, leaf api.Digest, proof []api.Digest) (api.Digest, bool) {
	at, last, r := index, size-1, leaf
	for _, p := range proof {
		if last == 0 {
			return api.Digest{}, false
		}
		if at&1 == 1 || at == last {
			r = knot(p, r)
			for at&1 == 0 && at != 0 {
				at, last = at>>1, last>>1
			}
		} else {
			r = knot(r, p)
		}
		at, last = at>>1, last>>1
	}
	return r, last == 0
}
