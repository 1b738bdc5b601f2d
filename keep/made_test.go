package keep_test

import (
	"fmt"
	"math"
	"slices"
	"strings"

	"estreat/api"
)

// farOff are numbers that nothing here has; the lowest bytes of many would do.
var farOff = []int{
	math.MinInt, math.MinInt + 1, -1<<62 + 1, -1<<32 + 1, -1<<31 + 1, -65536 + 1, -256 + 1, -2001, -2000, -2, -1,
	900000001, 1<<31 - 1, 1 << 31, 1<<32 + 1, 1<<40 + 1, 1<<62 - 1, 1 << 62, math.MaxInt - 1, math.MaxInt,
}

// among is numbers and others, in new memory.
func among(l []int, more ...int) []int { return slices.Concat(l, more) }

// rising has the bytes from c on, so that no two places are alike.
func rising(c int) [32]byte {
	var d [32]byte
	for i := range d {
		d[i] = byte(c + i)
	}
	return d
}

func user(epoch, client, seq int) api.Item {
	return api.Item{Epoch: epoch, Entry: api.Entry{Kind: 1, Client: client, Seq: seq}}
}

func text(epoch, client, seq int, s string) api.Item {
	x := user(epoch, client, seq)
	x.Entry.Text = s
	return x
}

func anchor(epoch int) api.Item {
	h := api.Head{Region: 3, Epoch: 259, Size: 70004, Root: rising(80), Tick: 16909060}
	return api.Item{Epoch: epoch, Entry: api.Entry{Kind: 2, Head: api.Signed{Head: h, Node: 2, Tag: rising(120)}}}
}

// claimed is an item of an epoch, of a claim of that one or of another.
func claimed(epoch, of, node int) api.Item {
	return api.Item{Epoch: epoch, Entry: api.Entry{Kind: 3, Claim: api.Claim{Region: 1, Epoch: of, Node: node, Size: 3, Root: rising(40)}}}
}

// opening is what makes a node the leader of an epoch's log.
func opening(epoch, node int) api.Item { return claimed(epoch, epoch, node) }

// claim is a right one, if region and epoch are; claims of two places are unlike in all that they have.
func claim(region, epoch int) api.Claim {
	return api.Claim{Region: region, Epoch: epoch, Node: 1 + (region+epoch)%3, Size: (7*region + epoch) % 1000, Root: rising(region + 5*epoch)}
}

// someClaims are n right ones, of all regions.
func someClaims(n int) []api.Claim {
	var l []api.Claim
	for i := range n {
		l = append(l, claim(1+i*5/n, 2+3*i))
	}
	return l
}

// plain is a right log of n items of each kind, all of one epoch, with no claim of that epoch; no two are alike. Its clients' Seqs rise from a number on.
func plain(n, epoch, from int) []api.Item {
	l := make([]api.Item, 0, n)
	for i := range n {
		switch i % 5 {
		case 2:
			x := anchor(epoch)
			x.Entry.Head.Head.Size = from + i
			l = append(l, x)
		case 4:
			x := claimed(epoch, 899999999, 3)
			x.Entry.Claim.Size = from + i
			l = append(l, x)
		default:
			l = append(l, text(epoch, 1+i%3, from+i, strings.Repeat("t", i%201)))
		}
	}
	return l
}

// opened is a right log of n items, the first third of epoch 1, the others of an epoch above it, which node 2 opened.
func opened(n, epoch int) []api.Item {
	old := plain(n/3, 1, 1)
	return slices.Concat(old, []api.Item{opening(epoch, 2)}, plain(n-n/3-1, epoch, 10000))
}

// kept is right: with n items, the first third of epoch 1, the others of epoch 5, and 9 promised.
func kept(n int) api.Kept {
	return api.Kept{Epoch: 9, Log: 5, Items: opened(n, 5), Claims: someClaims(6)}
}

// first is right: with n items of epoch 1.
func first(n int) api.Kept {
	return api.Kept{Epoch: 1, Log: 1, Items: plain(n, 1, 1), Claims: someClaims(2)}
}

// behind is l and items behind it, in new memory.
func behind(l []api.Item, more ...api.Item) []api.Item { return slices.Concat(l, more) }

// with is l with another item at a place.
func with(l []api.Item, at int, x api.Item) []api.Item {
	l = slices.Clone(l)
	l[at] = x
	return l
}

// changed is x with one thing about it changed; lists are to be replaced, not changed.
func changed[T any](x T, change func(*T)) T {
	change(&x)
	return x
}

// edgeItems are right, and each would not be if some number were a bit greater or less.
func edgeItems() []api.Item {
	return []api.Item{
		user(1, 1, 1), user(900000000, 3, 1000000), text(1, 2, 1, strings.Repeat("\xff", 200)), text(1, 2, 1, "\x00"),
		anchor(1), anchor(900000000),
		{Epoch: 1, Entry: api.Entry{Kind: 2, Head: api.Signed{Head: api.Head{Region: 1, Epoch: 1}, Node: 1}}},
		{Epoch: 900000000, Entry: api.Entry{Kind: 2, Head: api.Signed{Head: api.Head{Region: 5, Epoch: 900000000, Size: 100000, Root: rising(224), Tick: 900000000}, Node: 3, Tag: rising(225)}}},
		claimed(1, 1, 1), claimed(900000000, 1, 1), claimed(1, 900000000, 3),
		{Epoch: 1, Entry: api.Entry{Kind: 3, Claim: api.Claim{Region: 1, Epoch: 1, Node: 1}}},
		{Epoch: 900000000, Entry: api.Entry{Kind: 3, Claim: api.Claim{Region: 5, Epoch: 900000000, Node: 3, Size: 100000, Root: rising(224)}}},
	}
}

// wrongItems are right but for one thing; some are so in no way.
func wrongItems() []api.Item {
	l := []api.Item{{}, {Epoch: 1}, {Epoch: 1, Entry: api.Entry{Kind: 1}}, {Epoch: 1, Entry: api.Entry{Kind: 2}}, {Epoch: 1, Entry: api.Entry{Kind: 3}}}
	for _, x := range []api.Item{user(1, 1, 1), anchor(1), claimed(1, 1, 1)} {
		for _, n := range among(farOff, 0) {
			l = append(l, changed(x, func(x *api.Item) { x.Epoch = n }))
		}
		for _, n := range among(farOff, 0, 4, 5, 257) {
			l = append(l, changed(x, func(x *api.Item) { x.Entry.Kind = api.EntryKind(n) }))
		}
		for kind := range 4 {
			if api.EntryKind(kind) != x.Entry.Kind {
				l = append(l, changed(x, func(x *api.Item) { x.Entry.Kind = api.EntryKind(kind) }))
			}
		}
	}
	for _, n := range among(farOff, 0) {
		l = append(l, user(1, n, 1), user(1, 1, n), claimed(1, n, 1), claimed(1, 1, n))
	}
	l = append(l, user(1, 4, 1), user(1, 1, 1000001), claimed(1, 1, 4), text(1, 1, 1, strings.Repeat("x", 201)), text(1, 1, 1, strings.Repeat("x", 65537)))
	for _, change := range []func(*api.Item){
		func(x *api.Item) { x.Entry.Client = 1 },
		func(x *api.Item) { x.Entry.Seq = 1 },
		func(x *api.Item) { x.Entry.Text = "a" },
		func(x *api.Item) { x.Entry.Head, x.Entry.Claim = api.Signed{}, api.Claim{} },
		func(x *api.Item) { x.Entry.Head.Node = 4 },
		func(x *api.Item) { x.Entry.Head.Head.Region = 6 },
		func(x *api.Item) { x.Entry.Head.Head.Size = 100001 },
		func(x *api.Item) { x.Entry.Head.Head.Tick = -1 },
		func(x *api.Item) { x.Entry.Claim.Region = 6 },
		func(x *api.Item) { x.Entry.Claim.Size = 100001 },
	} {
		l = append(l, changed(anchor(1), change), changed(claimed(1, 1, 1), change))
	}
	return slices.DeleteFunc(l, itemIsRight)
}

// wrongClaims are right but for one thing.
func wrongClaims() []api.Claim {
	l := []api.Claim{{}, {Root: rising(1)}}
	for _, c := range []api.Claim{claim(1, 1), claim(5, 900000000), {Region: 3, Epoch: 7, Node: 3, Size: 100000}} {
		for _, n := range among(farOff, 0, 6, 257) {
			l = append(l, changed(c, func(c *api.Claim) { c.Region = n }))
		}
		for _, n := range among(farOff, 0) {
			l = append(l, changed(c, func(c *api.Claim) { c.Epoch = n }))
		}
		for _, n := range among(farOff, 0, 4, 258) {
			l = append(l, changed(c, func(c *api.Claim) { c.Node = n }))
		}
		for _, n := range among(farOff, 100001) {
			l = append(l, changed(c, func(c *api.Claim) { c.Size = n }))
		}
	}
	return l
}

// wrongLogs are of each kind that there is of wrong ones; but for what is wrong, their Epochs are 1 to 5, and node 2 opened 5.
func wrongLogs() map[string][]api.Item {
	l := opened(20, 5)
	return map[string][]api.Item{
		"2001 items":                     opened(2001, 5),
		"a wrong item first":             with(l, 0, api.Item{}),
		"a wrong item in the midst":      with(l, 9, api.Item{Epoch: 5}),
		"a wrong item last":              with(l, 19, user(5, 4, 1)),
		"an Epoch of 0":                  with(l, 0, user(0, 1, 1)),
		"an Epoch that falls":            with(l, 3, user(2, 1, 9000)),
		"a last Epoch that falls":        with(l, 19, user(4, 1, 90000)),
		"only an item that is not one":   {{}},
		"an Epoch above all, that falls": behind([]api.Item{user(900000001, 1, 1)}, l...),
	}
}

// wrongRows are claims of which some are not right, or that do not rise.
func wrongRows() map[string][]api.Claim {
	l := someClaims(6)
	rows := map[string][]api.Claim{
		"one twice":                {l[0], l[1], l[1], l[2]},
		"a Region that falls":      {l[0], l[5], l[2]},
		"an Epoch that falls":      {claim(2, 5), claim(2, 4)},
		"another one of one place": {claim(2, 5), changed(claim(2, 5), func(c *api.Claim) { c.Size++ })},
	}
	for i, c := range wrongClaims() {
		rows[fmt.Sprintf("the wrong claim %d alone", i)] = []api.Claim{c}
		rows[fmt.Sprintf("the wrong claim %d last", i)] = []api.Claim{claim(1, 1), c}
	}
	return rows
}

// wrongKepts are right but for one thing.
func wrongKepts() map[string]api.Kept {
	out := map[string]api.Kept{
		"zero":                     {},
		"only Epoch":               {Epoch: 1},
		"only Log":                 {Log: 1},
		"an item above Log":        {Epoch: 9, Log: 1, Items: []api.Item{user(2, 1, 1)}},
		"a last item above Log":    {Epoch: 9, Log: 5, Items: behind(opened(9, 5), user(6, 1, 90000))},
		"an item above Epoch, too": {Epoch: 5, Log: 5, Items: behind(opened(9, 5), user(6, 1, 90000))},
		"no leader":                {Epoch: 9, Log: 5},
		"no leader in items":       {Epoch: 9, Log: 5, Items: plain(20, 5, 1)},
		"Log above Epoch":          {Epoch: 4, Log: 5, Items: opened(9, 5)},
	}
	for name, l := range wrongLogs() {
		out["Items with "+name] = api.Kept{Epoch: 9, Log: 5, Items: l}
		out["Items of Log 1 with "+name] = api.Kept{Epoch: 9, Log: 1, Items: l}
	}
	for name, l := range wrongRows() {
		out["Claims with "+name] = api.Kept{Epoch: 9, Log: 5, Items: opened(9, 5), Claims: l}
	}
	return out
}

// rightKepts are at the edges of what is right, and some within.
func rightKepts() map[string]api.Kept {
	return map[string]api.Kept{
		"new":                     {Epoch: 1, Log: 1},
		"new, with lists":         {Epoch: 1, Log: 1, Items: []api.Item{}, Claims: []api.Claim{}},
		"the last Epoch, Log 1":   {Epoch: 900000000, Log: 1},
		"the last Epoch and Log":  {Epoch: 900000000, Log: 900000000, Items: []api.Item{opening(900000000, 3)}},
		"the last Log, and items": {Epoch: 900000000, Log: 900000000, Items: opened(7, 900000000), Claims: []api.Claim{claim(1, 1), claim(5, 900000000)}},
		"Log below Epoch":         kept(20),
		"Log as Epoch":            {Epoch: 5, Log: 5, Items: opened(20, 5), Claims: someClaims(1)},
		"Log 1":                   first(20),
		"Log 2":                   {Epoch: 2, Log: 2, Items: opened(3, 2)},
		"1999 items":              kept(1999),
		"2000 items":              kept(2000),
		"2000 items of epoch 1":   {Epoch: 1, Log: 1, Items: plain(2000, 1, 1)},
		"edge items":              {Epoch: 900000000, Log: 900000000, Items: sorted(edgeItems())},
		"many claims":             {Epoch: 3, Log: 1, Claims: someClaims(400)},
		"one client's Seq twice":  {Epoch: 1, Log: 1, Items: []api.Item{user(1, 1, 7), user(1, 1, 7), user(1, 1, 3)}},
	}
}

// sorted is a log whose Epochs do not fall.
func sorted(l []api.Item) []api.Item {
	slices.SortStableFunc(l, func(a, b api.Item) int { return a.Epoch - b.Epoch })
	return l
}

func epochRecord(epoch int) api.Record { return api.Record{Kind: 1, Epoch: epoch} }

func itemRecord(x api.Item) api.Record { return api.Record{Kind: 2, Item: x} }

func adoptRecord(epoch, from int, l ...api.Item) api.Record {
	return api.Record{Kind: 3, Epoch: epoch, From: from, Items: l}
}

func claimRecord(c api.Claim) api.Record { return api.Record{Kind: 4, Claim: c} }

// rightRecords may be: the edges of each Kind, and some within.
func rightRecords() []api.Record {
	var l []api.Record
	for _, n := range []int{1, 2, 127, 128, 255, 256, 257, 65535, 65536, 1<<24 - 1, 1 << 24, 899999999, 900000000} {
		l = append(l, epochRecord(n), adoptRecord(n, 0), itemRecord(text(n, 2, 258, "ab")), claimRecord(claim(4, n)))
	}
	for _, n := range []int{0, 1, 2, 127, 128, 255, 256, 257, 1999, 2000} {
		l = append(l, adoptRecord(3, n), adoptRecord(3, n, user(3, 1, 1)))
	}
	for _, x := range edgeItems() {
		l = append(l, itemRecord(x), adoptRecord(900000000, 2000, x), adoptRecord(1, 0, x, x))
	}
	for _, n := range []int{0, 1, 2, 3, 7, 20, 255, 256, 1999, 2000} {
		l = append(l, adoptRecord(5, 9, plain(n, 4, 1)...))
	}
	full := text(900000000, 3, 1000000, strings.Repeat("\xff", 200))
	l = append(l, adoptRecord(900000000, 2000, slices.Repeat([]api.Item{full}, 2000)...))
	l = append(l, adoptRecord(900000000, 2000, slices.Repeat([]api.Item{edgeItems()[7]}, 2000)...))
	l = append(l, adoptRecord(900000000, 2000, slices.Repeat([]api.Item{edgeItems()[12]}, 2000)...))
	l = append(l, api.Record{Kind: 1, Epoch: 1, Items: []api.Item{}}, api.Record{Kind: 2, Item: anchor(4), Items: []api.Item{}}, api.Record{Kind: 4, Claim: claim(2, 2), Items: []api.Item{}})
	for _, c := range slices.Concat(someClaims(20), []api.Claim{{Region: 1, Epoch: 1, Node: 1}, {Region: 5, Epoch: 900000000, Node: 3, Size: 100000, Root: rising(224)}}) {
		l = append(l, claimRecord(c))
	}
	return l
}

// plainRecords are one of each Kind.
func plainRecords() []api.Record {
	return []api.Record{epochRecord(9), itemRecord(user(5, 1, 900000)), adoptRecord(9, 1, opening(9, 3)), claimRecord(claim(2, 900))}
}

// strayNumbers are for parts that are to be zero.
var strayNumbers = []int{1, 2, 3, 9, -1, 256, 1 << 32, 900000000, math.MinInt, math.MaxInt}

// strayRecords are plain ones, each with one part not zero that is to be.
func strayRecords() []api.Record {
	var l []api.Record
	for _, r := range plainRecords() {
		if r.Kind == 2 || r.Kind == 4 {
			for _, n := range strayNumbers {
				l = append(l, changed(r, func(r *api.Record) { r.Epoch = n }))
			}
		}
		if r.Kind != 3 {
			for _, n := range strayNumbers {
				l = append(l, changed(r, func(r *api.Record) { r.From = n }))
			}
			for _, items := range [][]api.Item{{{}}, {user(1, 1, 1)}, {opening(9, 3)}, {{}, {}}, plain(20, 1, 1)} {
				l = append(l, changed(r, func(r *api.Record) { r.Items = items }))
			}
		}
		if r.Kind != 2 {
			for _, x := range strayItems() {
				l = append(l, changed(r, func(r *api.Record) { r.Item = x }))
			}
		}
		if r.Kind != 4 {
			for _, c := range strayClaims() {
				l = append(l, changed(r, func(r *api.Record) { r.Claim = c }))
			}
		}
	}
	return l
}

// strayItems are right, or zero but for one thing.
func strayItems() []api.Item {
	l := edgeItems()
	for _, n := range strayNumbers {
		for _, at := range []func(*api.Item) *int{
			func(x *api.Item) *int { return &x.Epoch },
			func(x *api.Item) *int { return (*int)(&x.Entry.Kind) },
			func(x *api.Item) *int { return &x.Entry.Client },
			func(x *api.Item) *int { return &x.Entry.Seq },
			func(x *api.Item) *int { return &x.Entry.Head.Head.Region },
			func(x *api.Item) *int { return &x.Entry.Head.Head.Epoch },
			func(x *api.Item) *int { return &x.Entry.Head.Head.Size },
			func(x *api.Item) *int { return &x.Entry.Head.Head.Tick },
			func(x *api.Item) *int { return &x.Entry.Head.Node },
		} {
			l = append(l, changed(api.Item{}, func(x *api.Item) { *at(x) = n }))
		}
	}
	for _, at := range []int{0, 15, 31} {
		l = append(l, changed(api.Item{}, func(x *api.Item) { x.Entry.Head.Head.Root[at] = 1 }))
		l = append(l, changed(api.Item{}, func(x *api.Item) { x.Entry.Head.Tag[at] = 128 }))
	}
	for _, s := range []string{"a", "\x00", strings.Repeat("x", 201)} {
		l = append(l, changed(api.Item{}, func(x *api.Item) { x.Entry.Text = s }))
	}
	for _, c := range strayClaims() {
		l = append(l, changed(api.Item{}, func(x *api.Item) { x.Entry.Claim = c }))
	}
	return l
}

// strayClaims are right, or zero but for one thing.
func strayClaims() []api.Claim {
	l := []api.Claim{claim(1, 1), claim(5, 900000000)}
	for _, n := range strayNumbers {
		l = append(l, api.Claim{Region: n}, api.Claim{Epoch: n}, api.Claim{Node: n}, api.Claim{Size: n})
	}
	for _, at := range []int{0, 15, 31} {
		l = append(l, changed(api.Claim{}, func(c *api.Claim) { c.Root[at] = 1 }))
	}
	return l
}

// wrongRecords may not be.
func wrongRecords() []api.Record {
	l := slices.Concat([]api.Record{{}}, strayRecords())
	for _, r := range plainRecords() {
		for _, n := range among(farOff, 0, 5, 6, 7, 255, 256, 257, 258, 259, 260) {
			l = append(l, changed(r, func(r *api.Record) { r.Kind = api.RecordKind(n) }))
		}
		for kind := range 6 {
			if api.RecordKind(kind) != r.Kind && !(r.Kind == 1 && kind == 3) {
				l = append(l, changed(r, func(r *api.Record) { r.Kind = api.RecordKind(kind) }))
			}
		}
	}
	for _, n := range among(farOff, 0) {
		l = append(l, epochRecord(n), adoptRecord(n, 0), adoptRecord(n, 0, opening(1, 2)))
	}
	for _, n := range among(farOff, 2001, 2002, 65536) {
		l = append(l, adoptRecord(5, n), adoptRecord(5, n, opening(5, 2)))
	}
	for _, x := range wrongItems() {
		l = append(l, itemRecord(x), adoptRecord(900000000, 0, x), adoptRecord(900000000, 0, user(1, 1, 1), x))
	}
	for _, items := range wrongLogs() {
		l = append(l, adoptRecord(5, 0, items...))
	}
	for _, c := range wrongClaims() {
		l = append(l, claimRecord(c))
	}
	for kind := range 5 {
		l = append(l, api.Record{Kind: api.RecordKind(kind)})
	}
	return l
}

// brief tells a thing that may be very long, and any bytes.
func brief(x any) string {
	switch y := x.(type) {
	case api.Kept:
		return fmt.Sprintf("Epoch %d, Log %d, %d items, %d claims: ", y.Epoch, y.Log, len(y.Items), len(y.Claims)) + short(y)
	case api.Record:
		return fmt.Sprintf("Kind %d, Epoch %d, From %d, %d items: ", y.Kind, y.Epoch, y.From, len(y.Items)) + short(y)
	}
	return short(x)
}

func short(x any) string {
	s := strings.ToValidUTF8(fmt.Sprintf("%+v", x), "?")
	return s[:min(len(s), 400)]
}

func sameKept(a, b api.Kept) bool {
	return a.Epoch == b.Epoch && a.Log == b.Log && slices.Equal(a.Items, b.Items) && slices.Equal(a.Claims, b.Claims)
}

func sameRecord(a, b api.Record) bool {
	return a.Kind == b.Kind && a.Epoch == b.Epoch && a.From == b.From && a.Item == b.Item && slices.Equal(a.Items, b.Items) && a.Claim == b.Claim
}

func keptIsZero(k api.Kept) bool {
	return k.Epoch == 0 && k.Log == 0 && len(k.Items) == 0 && len(k.Claims) == 0
}

func recordIsZero(r api.Record) bool { return sameRecord(r, api.Record{}) }
