package history_test

import (
	"crypto/sha256"
	"fmt"
	"math"
	"math/big"
	"slices"
	"strings"

	"estreat/api"
)

// farOff are numbers that nothing here has; the lowest bytes of many would do.
var farOff = []int{
	math.MinInt, math.MinInt + 1, -1<<62 + 1, -1<<32 + 1, -1<<31 + 1, -65536 + 1, -256 + 1, -2001, -2000, -2, -1,
	900000001, 1<<31 - 1, 1 << 31, 1<<32 + 1, 1<<40 + 1, 1<<62 - 1, 1 << 62, math.MaxInt - 1, math.MaxInt,
}

// rising has the bytes from c on, so that no two places are alike.
func rising(c int) [32]byte {
	var d [32]byte
	for i := range d {
		d[i] = byte(c + i)
	}
	return d
}

func user(epoch, client, seq int) api.Item {
	return api.Item{Epoch: epoch, Entry: api.Entry{Kind: 1, Client: client, Seq: seq}}
}

func text(epoch, client, seq int, s string) api.Item {
	x := user(epoch, client, seq)
	x.Entry.Text = s
	return x
}

func anchor(epoch int) api.Item {
	h := api.Head{Region: 3, Epoch: 259, Size: 70004, Root: rising(80), Tick: 16909060}
	return api.Item{Epoch: epoch, Entry: api.Entry{Kind: 2, Head: api.Signed{Head: h, Node: 2, Tag: rising(120)}}}
}

func claim(epoch int) api.Item {
	return api.Item{Epoch: epoch, Entry: api.Entry{Kind: 3, Claim: api.Claim{Region: 4, Epoch: 258, Node: 2, Size: 70003, Root: rising(40)}}}
}

// made is a right log of items of each kind, no two of which are alike, with Epochs that stay and that rise. The clients' Seqs rise.
func made(n int) []api.Item {
	l := make([]api.Item, 0, n)
	for i := range n {
		epoch := 1 + i/7*3
		switch i % 5 {
		case 2:
			x := anchor(epoch)
			x.Entry.Head.Head.Size = i
			l = append(l, x)
		case 4:
			x := claim(epoch)
			x.Entry.Claim.Size = i
			l = append(l, x)
		default:
			l = append(l, text(epoch, 1+i%3, 1+i, strings.Repeat("t", i%201)))
		}
	}
	return l
}

// users is a right log of n entries of one client, with the Seqs from 1 on.
func users(n int) []api.Item {
	l := make([]api.Item, 0, n)
	for i := range n {
		l = append(l, user(1, 1, 1+i))
	}
	return l
}

// with is l with another item at a place.
func with(l []api.Item, at int, x api.Item) []api.Item {
	l = slices.Clone(l)
	l[at] = x
	return l
}

// behind is l and items behind it, in new memory.
func behind(l []api.Item, more ...api.Item) []api.Item {
	return slices.Concat(l, more)
}

// changed is x with one thing about it changed.
func changed(x api.Item, change func(*api.Item)) api.Item {
	change(&x)
	return x
}

// edgeItems are right, and each would not be if some number were a bit greater or less.
func edgeItems() []api.Item {
	return []api.Item{
		user(1, 1, 1), user(900000000, 3, 1000000), text(1, 2, 1, strings.Repeat("\xff", 200)), text(1, 2, 1, "\x00"),
		anchor(1), anchor(900000000),
		{Epoch: 1, Entry: api.Entry{Kind: 2, Head: api.Signed{Head: api.Head{Region: 1, Epoch: 1}, Node: 1}}},
		{Epoch: 1, Entry: api.Entry{Kind: 2, Head: api.Signed{Head: api.Head{Region: 5, Epoch: 900000000, Size: 100000, Tick: 900000000}, Node: 3}}},
		claim(1), claim(900000000),
		{Epoch: 1, Entry: api.Entry{Kind: 3, Claim: api.Claim{Region: 1, Epoch: 1, Node: 1}}},
		{Epoch: 1, Entry: api.Entry{Kind: 3, Claim: api.Claim{Region: 5, Epoch: 900000000, Node: 3, Size: 100000}}},
	}
}

// wrongItems are right but for one thing; some are so in no way.
func wrongItems() []api.Item {
	l := []api.Item{{}, {Epoch: 1}, {Epoch: 1, Entry: api.Entry{Kind: 1}}, {Epoch: 1, Entry: api.Entry{Kind: 2}}, {Epoch: 1, Entry: api.Entry{Kind: 3}}}
	for _, x := range []api.Item{user(1, 1, 1), anchor(1), claim(1)} {
		for _, epoch := range append(farOff, 0) {
			l = append(l, changed(x, func(x *api.Item) { x.Epoch = epoch }))
		}
		for _, kind := range append(farOff, 0, 4, 5, 257) {
			l = append(l, changed(x, func(x *api.Item) { x.Entry.Kind = api.EntryKind(kind) }))
		}
	}
	for _, n := range append(farOff, 0, 1000001) {
		l = append(l, user(1, n, 1), user(1, 1, n))
	}
	l = append(l, user(1, 4, 1), text(1, 1, 1, strings.Repeat("x", 201)), text(1, 1, 1, strings.Repeat("x", 65537)))
	for _, change := range []func(*api.Item){
		func(x *api.Item) { x.Entry.Client = 1 },
		func(x *api.Item) { x.Entry.Seq = 1 },
		func(x *api.Item) { x.Entry.Text = "a" },
		func(x *api.Item) { x.Entry.Head = api.Signed{}; x.Entry.Claim = api.Claim{} },
	} {
		l = append(l, changed(anchor(1), change), changed(claim(1), change))
	}
	for _, change := range []func(*api.Item){
		func(x *api.Item) { x.Entry.Head.Node = 1 + x.Entry.Head.Node*2 },
		func(x *api.Item) { x.Entry.Head.Head.Region = 6 },
		func(x *api.Item) { x.Entry.Head.Head.Epoch = 900000001 },
		func(x *api.Item) { x.Entry.Head.Head.Size = 100001 },
		func(x *api.Item) { x.Entry.Head.Head.Tick = -1 },
		func(x *api.Item) { x.Entry.Head.Tag[31] = 1; x.Entry.Head.Node = 0 },
	} {
		l = append(l, changed(anchor(1), change), changed(user(1, 1, 1), change), changed(claim(1), change))
	}
	for _, change := range []func(*api.Item){
		func(x *api.Item) { x.Entry.Claim.Node = 1 + x.Entry.Claim.Node*2 },
		func(x *api.Item) { x.Entry.Claim.Region = 6 },
		func(x *api.Item) { x.Entry.Claim.Epoch = 900000001 },
		func(x *api.Item) { x.Entry.Claim.Size = 100001 },
		func(x *api.Item) { x.Entry.Claim.Root[0] = 1; x.Entry.Claim.Node = 0 },
	} {
		l = append(l, changed(claim(1), change), changed(user(1, 1, 1), change), changed(anchor(1), change))
	}
	return l
}

// wrongLogs are of each kind that there is of wrong ones.
func wrongLogs() map[string][]api.Item {
	l := made(20)
	fallen := made(20)
	fallen[19].Epoch = fallen[18].Epoch - 1
	return map[string][]api.Item{
		"2001 items":                made(2001),
		"a wrong item first":        with(l, 0, api.Item{}),
		"a wrong item in the midst": with(l, 9, api.Item{Epoch: l[9].Epoch}),
		"a wrong item last":         with(l, 19, user(l[19].Epoch, 4, 1)),
		"an Epoch of 0":             with(l, 0, user(0, 1, 1)),
		"an Epoch above all":        behind(l, user(900000001, 1, 100)),
		"an Epoch that falls":       with(l, 9, user(l[8].Epoch+1000, 1, 100)),
		"a last Epoch that falls":   fallen,
	}
}

// brief tells a thing whose text may be very long, and any bytes.
func brief(x any) string {
	s := strings.ToValidUTF8(fmt.Sprintf("%+v", x), "?")
	return s[:min(len(s), 600)]
}

// The chapters' words, in their own numbers.

func itemIsRight(x api.Item) bool {
	e := x.Entry
	noUser := e.Client == 0 && e.Seq == 0 && e.Text == ""
	noHead := e.Head == api.Signed{}
	noClaim := e.Claim == api.Claim{}
	if x.Epoch < 1 || x.Epoch > 900000000 {
		return false
	}
	if e.Kind == 1 {
		return e.Client >= 1 && e.Client <= 3 && e.Seq >= 1 && e.Seq <= 1000000 && len(e.Text) <= 200 && noHead && noClaim
	}
	if e.Kind == 2 {
		return noUser && noClaim && headIsRight(e.Head.Head) && e.Head.Node >= 1 && e.Head.Node <= 3
	}
	c := e.Claim
	return e.Kind == 3 && noUser && noHead && c.Region >= 1 && c.Region <= 5 && c.Epoch >= 1 && c.Epoch <= 900000000 && c.Node >= 1 && c.Node <= 3 && c.Size >= 0 && c.Size <= 100000
}

func headIsRight(h api.Head) bool {
	return h.Region >= 1 && h.Region <= 5 && h.Epoch >= 1 && h.Epoch <= 900000000 && h.Size >= 0 && h.Size <= 100000 && h.Tick >= 0 && h.Tick <= 900000000
}

func logIsRight(l []api.Item) bool {
	falls := false
	wrong := false
	for i, x := range l {
		falls = falls || i > 0 && l[i-1].Epoch > x.Epoch
		wrong = wrong || !itemIsRight(x)
	}
	return len(l) <= 2000 && !wrong && !falls
}

func found(l []api.Item, client, seq int) (int, bool) {
	return placeOf(slices.IndexFunc(l, func(x api.Item) bool {
		return x.Entry.Kind == 1 && x.Entry.Client == client && x.Entry.Seq == seq
	}))
}

func placeOf(i int) (int, bool) {
	if i < 0 {
		return 0, false
	}
	return i, true
}

func mayCome(l []api.Item, x api.Item) api.Errno {
	if !logIsRight(l) || !itemIsRight(x) {
		return api.ErrHistoryForm
	}
	greatest := map[int]int{}
	last := 0
	for _, y := range l {
		last = y.Epoch
		if y.Entry.Kind == 1 {
			greatest[y.Entry.Client] = max(greatest[y.Entry.Client], y.Entry.Seq)
		}
	}
	if x.Epoch < last {
		return api.ErrHistoryEpoch
	}
	if len(l) == 2000 {
		return api.ErrLimit
	}
	if x.Entry.Kind == 1 && greatest[x.Entry.Client] >= x.Entry.Seq {
		return api.ErrHistoryOld
	}
	return api.OK
}

// number is n's bytes, worked out by the library.
func number(n int) string { return string(big.NewInt(int64(n)).Bytes()) }

// row is the bytes of fields, each a tag and what it has.
func row(fields ...any) string {
	var b strings.Builder
	for i := 0; i < len(fields); i += 2 {
		data := ""
		switch x := fields[i+1].(type) {
		case int:
			data = number(x)
		case string:
			data = x
		case api.Digest:
			data = string(x[:])
		}
		n := len(data)
		b.Write([]byte{byte(fields[i].(int)), byte(n >> 16), byte(n >> 8), byte(n)})
		b.WriteString(data)
	}
	return b.String()
}

// itemBytes are chapter 8's of a right item.
func itemBytes(x api.Item) string {
	e := x.Entry
	switch e.Kind {
	case 1:
		return row(1, x.Epoch, 2, row(1, 1, 2, e.Client, 3, e.Seq, 4, e.Text))
	case 2:
		h := e.Head.Head
		signed := row(1, row(1, h.Region, 2, h.Epoch, 3, h.Size, 4, h.Root, 5, h.Tick), 2, e.Head.Node, 3, e.Head.Tag)
		return row(1, x.Epoch, 2, row(1, 2, 5, signed))
	}
	c := e.Claim
	return row(1, x.Epoch, 2, row(1, 3, 6, row(1, c.Region, 2, c.Epoch, 3, c.Node, 4, c.Size, 5, c.Root)))
}

func leavesOf(l []api.Item) []api.Digest {
	var out []api.Digest
	for _, x := range l {
		out = append(out, sha256.Sum256([]byte("\x00"+itemBytes(x))))
	}
	return out
}

func knot(a, b api.Digest) api.Digest {
	return sha256.Sum256(slices.Concat([]byte{1}, a[:], b[:]))
}

// halves is where a list of two or more is parted.
func halves(l []api.Digest) ([]api.Digest, []api.Digest) {
	split := 1
	for split*2 < len(l) {
		split *= 2
	}
	return l[:split], l[split:]
}

func rootOf(l []api.Digest) api.Digest {
	if len(l) == 0 {
		return sha256.Sum256(nil)
	}
	if len(l) == 1 {
		return l[0]
	}
	left, right := halves(l)
	return knot(rootOf(left), rootOf(right))
}

func inclusionOf(l []api.Digest, i int) []api.Digest {
	if len(l) == 1 {
		return nil
	}
	left, right := halves(l)
	if i < len(left) {
		return append(inclusionOf(left, i), rootOf(right))
	}
	return append(inclusionOf(right, i-len(left)), rootOf(left))
}

func consistencyOf(l []api.Digest, m int, known bool) []api.Digest {
	if m == 0 || m == len(l) && known {
		return nil
	}
	if m == len(l) {
		return []api.Digest{rootOf(l)}
	}
	left, right := halves(l)
	if m <= len(left) {
		return append(consistencyOf(left, m, known), rootOf(right))
	}
	return append(consistencyOf(right, m-len(left), false), rootOf(left))
}
