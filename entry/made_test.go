package entry_test

import (
	"crypto/sha256"
	"fmt"
	"math"
	"math/big"
	"slices"
	"strings"

	"estreat/api"
	"estreat/entry"
)

// What right things have: the edges, and numbers of no byte, of one and of several.
var (
	epochs = []int{1, 2, 127, 128, 255, 256, 257, 65535, 65536, 1<<24 - 1, 1 << 24, 899999999, 900000000}
	sizes  = []int{0, 1, 2, 127, 128, 255, 256, 257, 65535, 65536, 99999, 100000}
	ticks  = []int{0, 1, 255, 256, 899999999, 900000000}
	seqs   = []int{1, 2, 127, 128, 255, 256, 257, 65535, 65536, 999999, 1000000}
)

// farOff are numbers that no field may have; the lowest bytes of many would be right.
var farOff = []int{
	-1, -2, -3, -5, -255, -256 + 1, -65536 + 2, -1<<31 + 1, -1<<32 + 1, -1<<40 + 3, -1<<62 + 1, math.MinInt, math.MinInt + 1, math.MinInt + 3,
	900000001, 1<<30 + 1, 1<<31 - 1, 1 << 31, 1<<32 + 1, 1<<32 + 3, 1<<40 + 1, 1<<56 + 1, 1<<62 - 1, 1 << 62, 1<<62 + 1, math.MaxInt - 1, math.MaxInt,
}

var (
	noRegions = slices.Concat(farOff, []int{0, 6, 7, 10, 100, 255, 256, 257, 258, 261, 512 + 1, 65536 + 5})
	noEpochs  = slices.Concat(farOff, []int{0, 900000002, 1000000000})
	noNodes   = slices.Concat(farOff, []int{0, 4, 5, 6, 10, 100, 255, 256, 257, 258, 259, 512 + 1, 65536 + 3})
	noSizes   = slices.Concat(farOff, []int{100001, 100002, 131072, 131072 + 1, 1000000, 1 << 24})
	noTicks   = slices.Concat(farOff, []int{900000002, 1000000000})
	noKinds   = slices.Concat(farOff, []int{0, 4, 5, 6, 10, 100, 255, 256, 257, 258, 259, 512 + 1, 65536 + 2})
	noClients = slices.Concat(farOff, []int{0, 4, 5, 6, 10, 100, 255, 256, 257, 258, 259, 512 + 1, 65536 + 3})
	noSeqs    = slices.Concat(farOff, []int{0, 1000001, 1000002, 1 << 20, 1<<24 + 1, 10000000})
)

// filled has c in every byte.
func filled(c byte) [32]byte {
	var d [32]byte
	for i := range d {
		d[i] = c
	}
	return d
}

// rising has the bytes from c on, so that no two places are alike.
func rising(c int) [32]byte {
	var d [32]byte
	for i := range d {
		d[i] = byte(c + i)
	}
	return d
}

func roots() []api.Digest {
	return []api.Digest{{}, filled(255), rising(0), rising(1), rising(224), {0: 1}, {31: 1}, {15: 255}, sha256.Sum256([]byte("a root"))}
}

func allBytes(n int) string {
	b := make([]byte, n)
	for i := range b {
		b[i] = byte(i)
	}
	return string(b)
}

func texts() []string {
	return []string{
		"", "a", "\x00", "\xff", "ab", "\x00\xff", "\xff\x00", "\x00\x00", "a text", "\x04\x00\x00\x01a",
		strings.Repeat("x", 199), strings.Repeat("x", 200), strings.Repeat("\x00", 200), strings.Repeat("\xff", 200), allBytes(200), allBytes(256)[56:],
	}
}

func noTexts() []string {
	return []string{strings.Repeat("x", 201), strings.Repeat("\x00", 201), allBytes(256), strings.Repeat("x", 456), strings.Repeat("x", 65536), strings.Repeat("x", 65537), strings.Repeat("x", 1<<20)}
}

// changed is base with each of the values in a place that at tells, one at a time.
func changed[T, V any](base T, at func(*T) *V, values []V) []T {
	var l []T
	for _, v := range values {
		x := base
		*at(&x) = v
		l = append(l, x)
	}
	return l
}

func leastClaim() api.Claim { return api.Claim{Region: 1, Epoch: 1, Node: 1} }

func greatestClaim() api.Claim {
	return api.Claim{Region: 5, Epoch: 900000000, Node: 3, Size: 100000, Root: filled(255)}
}

// plainClaim has fields that are all unlike.
func plainClaim() api.Claim {
	return api.Claim{Region: 4, Epoch: 258, Node: 2, Size: 70003, Root: rising(40)}
}

func claimRegionAt(c *api.Claim) *int      { return &c.Region }
func claimEpochAt(c *api.Claim) *int       { return &c.Epoch }
func claimNodeAt(c *api.Claim) *int        { return &c.Node }
func claimSizeAt(c *api.Claim) *int        { return &c.Size }
func claimRootAt(c *api.Claim) *api.Digest { return &c.Root }

// rightClaims are the ends, and claims that are unlike plainClaim in one field alone.
func rightClaims() []api.Claim {
	c := plainClaim()
	return slices.Concat(
		[]api.Claim{leastClaim(), greatestClaim(), c},
		changed(c, claimRegionAt, []int{1, 2, 3, 5}),
		changed(c, claimEpochAt, epochs),
		changed(c, claimNodeAt, []int{1, 3}),
		changed(c, claimSizeAt, sizes),
		changed(c, claimRootAt, roots()),
	)
}

// wrongClaims are right in all fields but one, and some are in none.
func wrongClaims() []api.Claim {
	l := []api.Claim{{}, {Root: filled(255)}, {Region: 6, Epoch: 900000001, Node: 4, Size: 100001}, {Region: -1, Epoch: -1, Node: -1, Size: -1}}
	for _, c := range []api.Claim{leastClaim(), greatestClaim(), plainClaim()} {
		l = slices.Concat(l, changed(c, claimRegionAt, noRegions), changed(c, claimEpochAt, noEpochs), changed(c, claimNodeAt, noNodes), changed(c, claimSizeAt, noSizes))
	}
	return l
}

func leastSigned() api.Signed { return api.Signed{Head: api.Head{Region: 1, Epoch: 1}, Node: 1} }

func greatestSigned() api.Signed {
	return api.Signed{Head: api.Head{Region: 5, Epoch: 900000000, Size: 100000, Root: filled(255), Tick: 900000000}, Node: 3, Tag: filled(255)}
}

func plainSigned() api.Signed {
	return api.Signed{Head: api.Head{Region: 3, Epoch: 259, Size: 70004, Root: rising(80), Tick: 16909060}, Node: 2, Tag: rising(120)}
}

func headRegionAt(s *api.Signed) *int      { return &s.Head.Region }
func headEpochAt(s *api.Signed) *int       { return &s.Head.Epoch }
func headSizeAt(s *api.Signed) *int        { return &s.Head.Size }
func headRootAt(s *api.Signed) *api.Digest { return &s.Head.Root }
func headTickAt(s *api.Signed) *int        { return &s.Head.Tick }
func signedNodeAt(s *api.Signed) *int      { return &s.Node }
func signedTagAt(s *api.Signed) *api.Digest {
	return &s.Tag
}

// signedHeads may be; their tags are of any kind, as no entry knows a key.
func signedHeads() []api.Signed {
	s := plainSigned()
	return slices.Concat(
		[]api.Signed{leastSigned(), greatestSigned(), s},
		changed(s, headRegionAt, []int{1, 2, 4, 5}),
		changed(s, headEpochAt, epochs),
		changed(s, headSizeAt, sizes),
		changed(s, headRootAt, roots()),
		changed(s, headTickAt, ticks),
		changed(s, signedNodeAt, []int{1, 3}),
		changed(s, signedTagAt, roots()),
	)
}

// noSignedHeads may not be.
func noSignedHeads() []api.Signed {
	l := []api.Signed{{}, {Node: 1}, {Tag: filled(255)}, {Head: leastSigned().Head}}
	for _, s := range []api.Signed{leastSigned(), greatestSigned(), plainSigned()} {
		l = slices.Concat(l, changed(s, headRegionAt, noRegions), changed(s, headEpochAt, noEpochs), changed(s, headSizeAt, noSizes), changed(s, headTickAt, noTicks), changed(s, signedNodeAt, noNodes))
	}
	return l
}

func user(client, seq int, text string) api.Entry {
	return api.Entry{Kind: 1, Client: client, Seq: seq, Text: text}
}

func anchor(s api.Signed) api.Entry { return api.Entry{Kind: 2, Head: s} }

func claimed(c api.Claim) api.Entry { return api.Entry{Kind: 3, Claim: c} }

// plains are one of each kind.
func plains() []api.Entry {
	return []api.Entry{user(2, 770, "plain\x00\xff"), anchor(plainSigned()), claimed(plainClaim())}
}

func kindAt(e *api.Entry) *api.EntryKind { return &e.Kind }
func clientAt(e *api.Entry) *int         { return &e.Client }
func seqAt(e *api.Entry) *int            { return &e.Seq }
func textAt(e *api.Entry) *string        { return &e.Text }

func rightEntries() []api.Entry {
	u := plains()[0]
	l := slices.Concat(
		[]api.Entry{u, user(1, 1, ""), user(3, 1000000, strings.Repeat("\xff", 200))},
		changed(u, clientAt, []int{1, 3}),
		changed(u, seqAt, seqs),
		changed(u, textAt, texts()),
	)
	for _, s := range signedHeads() {
		l = append(l, anchor(s))
	}
	for _, c := range rightClaims() {
		l = append(l, claimed(c))
	}
	return l
}

// ends are the least, the greatest and a plain entry of each kind.
func ends() []api.Entry {
	return slices.Concat(plains(), []api.Entry{
		user(1, 1, ""), user(3, 1000000, strings.Repeat("\xff", 200)),
		anchor(leastSigned()), anchor(greatestSigned()),
		claimed(leastClaim()), claimed(greatestClaim()),
	})
}

// wrongEntries have what their kind may not have, or a kind that there is not.
func wrongEntries() []api.Entry {
	l := []api.Entry{{}, {Kind: 1}, {Kind: 2}, {Kind: 3}, {Kind: 4}, {Text: "a"}, {Client: 1, Seq: 1, Text: "a"}, {Head: plainSigned()}, {Claim: plainClaim()}}
	for _, e := range ends() {
		for _, n := range noKinds {
			l = append(l, changed(e, kindAt, []api.EntryKind{api.EntryKind(n)})...)
		}
		if e.Kind == 1 {
			l = slices.Concat(l, changed(e, clientAt, noClients), changed(e, seqAt, noSeqs), changed(e, textAt, noTexts()))
		}
		// Each kind of another one's fields.
		for kind := range api.EntryKind(4) {
			if kind != e.Kind {
				l = append(l, changed(e, kindAt, []api.EntryKind{kind})...)
			}
		}
	}
	for _, s := range noSignedHeads() {
		l = append(l, anchor(s))
	}
	for _, c := range wrongClaims() {
		l = append(l, claimed(c))
	}
	return slices.Concat(l, strayEntries())
}

// strayEntries are right but for one field that another kind has.
func strayEntries() []api.Entry {
	var l []api.Entry
	for _, e := range ends() {
		if e.Kind != 1 {
			l = slices.Concat(l, changed(e, clientAt, []int{1, 2, 3, 4, -1, 256, 1 << 32, math.MinInt, math.MaxInt}),
				changed(e, seqAt, []int{1, 2, 1000000, 1000001, -1, 256, 1 << 32, math.MinInt, math.MaxInt}),
				changed(e, textAt, []string{"a", "\x00", "\xff", "ab", allBytes(200), allBytes(256)}))
		}
		if e.Kind != 2 {
			l = slices.Concat(l, strayHeads(e))
		}
		if e.Kind != 3 {
			l = slices.Concat(l, strayClaims(e))
		}
	}
	return l
}

func strayHeads(e api.Entry) []api.Entry {
	l := changed(e, func(e *api.Entry) *api.Signed { return &e.Head }, []api.Signed{leastSigned(), greatestSigned(), plainSigned()})
	for _, at := range []func(*api.Signed) *int{headRegionAt, headEpochAt, headSizeAt, headTickAt, signedNodeAt} {
		l = append(l, changed(e, func(e *api.Entry) *int { return at(&e.Head) }, []int{1, 3, -1, 256, 1 << 32, math.MinInt, math.MaxInt})...)
	}
	for _, at := range []func(*api.Signed) *api.Digest{headRootAt, signedTagAt} {
		l = append(l, changed(e, func(e *api.Entry) *api.Digest { return at(&e.Head) }, singleBytes())...)
	}
	return l
}

func strayClaims(e api.Entry) []api.Entry {
	l := changed(e, func(e *api.Entry) *api.Claim { return &e.Claim }, []api.Claim{leastClaim(), greatestClaim(), plainClaim()})
	for _, at := range []func(*api.Claim) *int{claimRegionAt, claimEpochAt, claimNodeAt, claimSizeAt} {
		l = append(l, changed(e, func(e *api.Entry) *int { return at(&e.Claim) }, []int{1, 3, -1, 256, 1 << 32, math.MinInt, math.MaxInt})...)
	}
	return append(l, changed(e, func(e *api.Entry) *api.Digest { return &e.Claim.Root }, singleBytes())...)
}

// singleBytes are digests that are 0 but for one byte, at each place.
func singleBytes() []api.Digest {
	var l []api.Digest
	for at := range 32 {
		for _, c := range []byte{1, 128, 255} {
			var d api.Digest
			d[at] = c
			l = append(l, d)
		}
	}
	return l
}

func itemEpochAt(x *api.Item) *int { return &x.Epoch }

func rightItems() []api.Item {
	var l []api.Item
	for i, e := range rightEntries() {
		l = append(l, api.Item{Epoch: epochs[i%len(epochs)], Entry: e})
	}
	for _, e := range ends() {
		l = append(l, changed(api.Item{Entry: e}, itemEpochAt, epochs)...)
	}
	return l
}

func wrongItems() []api.Item {
	l := []api.Item{{}, {Epoch: 1}, {Epoch: 900000000}}
	for _, e := range ends() {
		l = append(l, changed(api.Item{Entry: e}, itemEpochAt, noEpochs)...)
	}
	for i, e := range wrongEntries() {
		l = append(l, api.Item{Epoch: epochs[i%len(epochs)], Entry: e})
	}
	return append(l, api.Item{Epoch: 0, Entry: wrongEntries()[1]}, api.Item{Epoch: 900000001, Entry: wrongEntries()[2]})
}

// brief tells a thing whose text may be very long, and any bytes.
func brief(x any) string {
	s := strings.ToValidUTF8(fmt.Sprintf("%+v", x), "?")
	return s[:min(len(s), 900)]
}

// The chapter's words, in its own numbers.

func claimIsRight(c api.Claim) bool {
	return c.Region >= 1 && c.Region <= 5 && c.Epoch >= 1 && c.Epoch <= 900000000 && c.Node >= 1 && c.Node <= 3 && c.Size >= 0 && c.Size <= 100000
}

func signedMayBe(s api.Signed) bool {
	h := s.Head
	return h.Region >= 1 && h.Region <= 5 && h.Epoch >= 1 && h.Epoch <= 900000000 && h.Size >= 0 && h.Size <= 100000 && h.Tick >= 0 && h.Tick <= 900000000 && s.Node >= 1 && s.Node <= 3
}

func entryIsRight(e api.Entry) bool {
	noUser := e.Client == 0 && e.Seq == 0 && e.Text == ""
	noHead := e.Head == api.Signed{}
	noClaim := e.Claim == api.Claim{}
	if e.Kind == 1 {
		return e.Client >= 1 && e.Client <= 3 && e.Seq >= 1 && e.Seq <= 1000000 && len(e.Text) <= 200 && noHead && noClaim
	}
	if e.Kind == 2 {
		return noUser && signedMayBe(e.Head) && noClaim
	}
	return e.Kind == 3 && noUser && noHead && claimIsRight(e.Claim)
}

func itemIsRight(x api.Item) bool {
	return x.Epoch >= 1 && x.Epoch <= 900000000 && entryIsRight(x.Entry)
}

// thing is one of the three that are laid: the calls of it, and how the tests lay and read it themselves.
type thing[T comparable] struct {
	name  string
	put   func(T) ([]byte, api.Errno)
	get   func([]byte) (T, api.Errno)
	parts func(T) []string
	in    func(string) (T, bool)
	right []T
	ends  []T
	wrong []T
}

func claimThing() thing[api.Claim] {
	return thing[api.Claim]{"P8.1: claim", entry.PutClaim, entry.GetClaim, claimParts, claimIn,
		rightClaims(), []api.Claim{leastClaim(), greatestClaim(), plainClaim()}, wrongClaims()}
}

func entryThing() thing[api.Entry] {
	return thing[api.Entry]{"P8.2: entry", entry.Put, entry.Get, entryParts, entryIn, rightEntries(), ends(), wrongEntries()}
}

func itemThing() thing[api.Item] {
	var l []api.Item
	for i, e := range ends() {
		l = append(l, api.Item{Epoch: []int{258, 1, 900000000}[i/3], Entry: e})
	}
	return thing[api.Item]{"P8.3: item", entry.PutItem, entry.GetItem, itemParts, itemIn, rightItems(), l, wrongItems()}
}

// number is n's bytes, worked out by the library; the sign is lost.
func number(n int) string {
	return string(big.NewInt(int64(n)).Bytes())
}

// field is a field's bytes, whatever it has.
func field(tag int, data string) string {
	n := len(data)
	return string([]byte{byte(tag), byte(n >> 16), byte(n >> 8), byte(n)}) + data
}

func claimParts(c api.Claim) []string {
	return []string{field(1, number(c.Region)), field(2, number(c.Epoch)), field(3, number(c.Node)), field(4, number(c.Size)), field(5, string(c.Root[:]))}
}

func headParts(h api.Head) []string {
	return []string{field(1, number(h.Region)), field(2, number(h.Epoch)), field(3, number(h.Size)), field(4, string(h.Root[:])), field(5, number(h.Tick))}
}

func signedParts(s api.Signed) []string {
	return []string{field(1, join(headParts(s.Head))), field(2, number(s.Node)), field(3, string(s.Tag[:]))}
}

func entryParts(e api.Entry) []string {
	kind := field(1, number(int(e.Kind)))
	switch e.Kind {
	case 2:
		return []string{kind, field(5, join(signedParts(e.Head)))}
	case 3:
		return []string{kind, field(6, join(claimParts(e.Claim)))}
	}
	return []string{kind, field(2, number(e.Client)), field(3, number(e.Seq)), field(4, e.Text)}
}

func itemParts(x api.Item) []string {
	return []string{field(1, number(x.Epoch)), field(2, join(entryParts(x.Entry)))}
}

func join(l []string) string { return strings.Join(l, "") }

// with is l with another part at a place.
func with(l []string, at int, part string) string {
	l = slices.Clone(l)
	l[at] = part
	return join(l)
}

// dataOf is what a field's bytes have.
func dataOf(part string) string { return part[4:] }

// The tests' own readers take field by field, and refuse the first thing that is wrong.

// dataIn is what s has in fields of just these tags.
func dataIn(s string, tags ...int) ([]string, bool) {
	var l []string
	for _, tag := range tags {
		if len(s) < 4 || int(s[0]) != tag {
			return nil, false
		}
		n := int(s[1])<<16 | int(s[2])<<8 | int(s[3])
		if n > 65536 || len(s) < 4+n {
			return nil, false
		}
		l = append(l, s[4:4+n])
		s = s[4+n:]
	}
	return l, s == ""
}

func numberIn(s string, good *bool) int {
	n := new(big.Int).SetBytes([]byte(s))
	if s != "" && s[0] == 0 || n.BitLen() > 62 {
		*good = false
		return 0
	}
	return int(n.Int64())
}

func digestIn(s string, good *bool) api.Digest {
	if len(s) != 32 {
		*good = false
		return api.Digest{}
	}
	return api.Digest([]byte(s))
}

func claimIn(s string) (api.Claim, bool) {
	l, good := dataIn(s, 1, 2, 3, 4, 5)
	if !good {
		return api.Claim{}, false
	}
	c := api.Claim{Region: numberIn(l[0], &good), Epoch: numberIn(l[1], &good), Node: numberIn(l[2], &good), Size: numberIn(l[3], &good), Root: digestIn(l[4], &good)}
	if !good || !claimIsRight(c) {
		return api.Claim{}, false
	}
	return c, true
}

func signedIn(s string) (api.Signed, bool) {
	l, good := dataIn(s, 1, 2, 3)
	if !good {
		return api.Signed{}, false
	}
	h, whole := dataIn(l[0], 1, 2, 3, 4, 5)
	if !whole {
		return api.Signed{}, false
	}
	x := api.Signed{
		Head: api.Head{Region: numberIn(h[0], &good), Epoch: numberIn(h[1], &good), Size: numberIn(h[2], &good), Root: digestIn(h[3], &good), Tick: numberIn(h[4], &good)},
		Node: numberIn(l[1], &good), Tag: digestIn(l[2], &good),
	}
	if !good || !signedMayBe(x) {
		return api.Signed{}, false
	}
	return x, true
}

func entryIn(s string) (api.Entry, bool) {
	if l, whole := dataIn(s, 1, 2, 3, 4); whole && l[0] == "\x01" {
		good := true
		e := user(numberIn(l[1], &good), numberIn(l[2], &good), l[3])
		if good && entryIsRight(e) {
			return e, true
		}
	}
	if l, whole := dataIn(s, 1, 5); whole && l[0] == "\x02" {
		if h, good := signedIn(l[1]); good {
			return anchor(h), true
		}
	}
	if l, whole := dataIn(s, 1, 6); whole && l[0] == "\x03" {
		if c, good := claimIn(l[1]); good {
			return claimed(c), true
		}
	}
	return api.Entry{}, false
}

func itemIn(s string) (api.Item, bool) {
	l, good := dataIn(s, 1, 2)
	if !good {
		return api.Item{}, false
	}
	e, there := entryIn(l[1])
	x := api.Item{Epoch: numberIn(l[0], &good), Entry: e}
	if !there || !good || !itemIsRight(x) {
		return api.Item{}, false
	}
	return x, true
}
