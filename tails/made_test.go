package tails_test

import (
	"fmt"
	"math"
	"slices"
	"strings"

	"estreat/api"
)

// farOff are numbers that nothing here has; the lowest bytes of many would do.
var farOff = []int{
	math.MinInt, math.MinInt + 1, -1<<62 + 1, -1<<32 + 1, -1<<31 + 1, -65536 + 1, -256 + 1, -2001, -2000, -2, -1,
	900000001, 1<<31 - 1, 1 << 31, 1<<32 + 1, 1<<40 + 1, 1<<62 - 1, 1 << 62, math.MaxInt - 1, math.MaxInt,
}

// among is numbers and others, in new memory.
func among(l []int, more ...int) []int { return slices.Concat(l, more) }

// rising has the bytes from c on, so that no two places are alike.
func rising(c int) [32]byte {
	var d [32]byte
	for i := range d {
		d[i] = byte(c + i)
	}
	return d
}

func user(epoch, client, seq int) api.Item {
	return api.Item{Epoch: epoch, Entry: api.Entry{Kind: 1, Client: client, Seq: seq}}
}

func text(epoch, client, seq int, s string) api.Item {
	x := user(epoch, client, seq)
	x.Entry.Text = s
	return x
}

func anchor(epoch int) api.Item {
	h := api.Head{Region: 3, Epoch: 259, Size: 70004, Root: rising(80), Tick: 16909060}
	return api.Item{Epoch: epoch, Entry: api.Entry{Kind: 2, Head: api.Signed{Head: h, Node: 2, Tag: rising(120)}}}
}

// claimed is an item of an epoch, of a claim of that one or of another.
func claimed(epoch, of, node int) api.Item {
	return api.Item{Epoch: epoch, Entry: api.Entry{Kind: 3, Claim: api.Claim{Region: 1, Epoch: of, Node: node, Size: 3, Root: rising(40)}}}
}

// opening is what makes a node the leader of an epoch's log.
func opening(epoch, node int) api.Item { return claimed(epoch, epoch, node) }

// plain is a right log of n items of each kind, all of one epoch, with no claim of that epoch; no two are alike. Its clients' Seqs rise from a number on.
func plain(n, epoch, from int) []api.Item {
	l := make([]api.Item, 0, n)
	for i := range n {
		switch i % 5 {
		case 2:
			x := anchor(epoch)
			x.Entry.Head.Head.Size = from + i
			l = append(l, x)
		case 4:
			x := claimed(epoch, 899999999, 3)
			x.Entry.Claim.Size = from + i
			l = append(l, x)
		default:
			l = append(l, text(epoch, 1+i%3, from+i, strings.Repeat("t", i%201)))
		}
	}
	return l
}

// opened is a right log of n items, the first third of epoch 1, the others of an epoch above it, which node 2 opened.
func opened(n, epoch int) []api.Item {
	old := plain(n/3, 1, 1)
	return slices.Concat(old, []api.Item{opening(epoch, 2)}, plain(n-n/3-1, epoch, 10000))
}

// behind is l and items behind it, in new memory.
func behind(l []api.Item, more ...api.Item) []api.Item { return slices.Concat(l, more) }

// with is l with another item at a place.
func with(l []api.Item, at int, x api.Item) []api.Item {
	l = slices.Clone(l)
	l[at] = x
	return l
}

// changed is x with one thing about it changed; lists are to be replaced, not changed.
func changed[T any](x T, change func(*T)) T {
	change(&x)
	return x
}

// first is a tail of epoch 1's log, with n user's items, as the chapter has it.
func first(node, n int) api.Tail {
	t := api.Tail{Node: node, Log: 1}
	for i := range n {
		t.Items = append(t.Items, user(1, 1, 1+i))
	}
	return t
}

// tail is a right one, if its Node is: with n items, of which two thirds are of Log.
func tail(node, log, n, commit int) api.Tail {
	t := api.Tail{Node: node, Log: log, Commit: commit, Items: plain(n, 1, 1)}
	if log > 1 {
		t.Items = opened(n, log)
	}
	return t
}

// loose is any tail: it need not be right, and its items tell it from others.
func loose(node, log, n, commit, mark int) api.Tail {
	t := api.Tail{Node: node, Log: log, Commit: commit}
	for i := range n {
		t.Items = append(t.Items, user(1, mark, i))
	}
	return t
}

// edgeItems are right, and each would not be if some number were a bit greater or less.
func edgeItems() []api.Item {
	return []api.Item{
		user(1, 1, 1), user(900000000, 3, 1000000), text(1, 2, 1, strings.Repeat("\xff", 200)), text(1, 2, 1, "\x00"),
		anchor(1), anchor(900000000),
		{Epoch: 1, Entry: api.Entry{Kind: 2, Head: api.Signed{Head: api.Head{Region: 1, Epoch: 1}, Node: 1}}},
		{Epoch: 900000000, Entry: api.Entry{Kind: 2, Head: api.Signed{Head: api.Head{Region: 5, Epoch: 900000000, Size: 100000, Root: rising(224), Tick: 900000000}, Node: 3, Tag: rising(225)}}},
		claimed(1, 1, 1), claimed(900000000, 1, 1), claimed(1, 900000000, 3),
		{Epoch: 1, Entry: api.Entry{Kind: 3, Claim: api.Claim{Region: 1, Epoch: 1, Node: 1}}},
		{Epoch: 900000000, Entry: api.Entry{Kind: 3, Claim: api.Claim{Region: 5, Epoch: 900000000, Node: 3, Size: 100000, Root: rising(224)}}},
	}
}

// sorted is a log whose Epochs do not fall.
func sorted(l []api.Item) []api.Item {
	slices.SortStableFunc(l, func(a, b api.Item) int { return a.Epoch - b.Epoch })
	return l
}

// wrongItems are right but for one thing; some are so in no way.
func wrongItems() []api.Item {
	l := []api.Item{{}, {Epoch: 1}, {Epoch: 1, Entry: api.Entry{Kind: 1}}, {Epoch: 1, Entry: api.Entry{Kind: 2}}, {Epoch: 1, Entry: api.Entry{Kind: 3}}}
	for _, x := range []api.Item{user(1, 1, 1), anchor(1), claimed(1, 1, 1)} {
		for _, n := range among(farOff, 0) {
			l = append(l, changed(x, func(x *api.Item) { x.Epoch = n }))
		}
		for _, n := range among(farOff, 0, 1, 2, 3, 4, 5, 257) {
			l = append(l, changed(x, func(x *api.Item) { x.Entry.Kind = api.EntryKind(n) }))
		}
	}
	for _, n := range among(farOff, 0) {
		l = append(l, user(1, n, 1), user(1, 1, n), claimed(1, n, 1), claimed(1, 1, n))
	}
	l = append(l, user(1, 4, 1), user(1, 1, 1000001), claimed(1, 1, 4), text(1, 1, 1, strings.Repeat("x", 201)))
	for _, change := range []func(*api.Item){
		func(x *api.Item) { x.Entry.Client = 1 },
		func(x *api.Item) { x.Entry.Seq = 1 },
		func(x *api.Item) { x.Entry.Text = "a" },
		func(x *api.Item) { x.Entry.Head, x.Entry.Claim = api.Signed{}, api.Claim{} },
		func(x *api.Item) { x.Entry.Head.Node = 4 },
		func(x *api.Item) { x.Entry.Head.Head.Region = 6 },
		func(x *api.Item) { x.Entry.Head.Head.Size = 100001 },
		func(x *api.Item) { x.Entry.Head.Head.Tick = -1 },
		func(x *api.Item) { x.Entry.Claim.Region = 6 },
		func(x *api.Item) { x.Entry.Claim.Size = 100001 },
	} {
		l = append(l, changed(anchor(1), change), changed(claimed(1, 1, 1), change))
	}
	return slices.DeleteFunc(l, itemIsRight)
}

// rightTails are at the edges of what is right, and some within.
func rightTails() map[string]api.Tail {
	out := map[string]api.Tail{
		"Log 1, no items":           {Node: 1, Log: 1},
		"Log 1, an empty list":      {Node: 1, Log: 1, Items: []api.Item{}},
		"Log 2":                     tail(2, 2, 3, 1),
		"an opening alone":          {Node: 3, Log: 7, Items: []api.Item{opening(7, 1)}, Commit: 1},
		"the last Log":              {Node: 2, Log: 900000000, Items: []api.Item{opening(900000000, 3)}},
		"the last Log, many items":  tail(1, 900000000, 30, 30),
		"1999 items":                tail(2, 5, 1999, 1999),
		"2000 items":                tail(2, 5, 2000, 2000),
		"2000 items of Log 1":       tail(3, 1, 2000, 0),
		"edge items":                {Node: 2, Log: 900000000, Items: sorted(edgeItems())},
		"one client's Seq twice":    {Node: 1, Log: 1, Items: []api.Item{user(1, 1, 7), user(1, 1, 7), user(1, 1, 3)}},
		"a claim behind an opening": {Node: 1, Log: 5, Items: []api.Item{opening(5, 2), opening(5, 3)}},
		"an opening behind others":  {Node: 1, Log: 5, Items: []api.Item{claimed(4, 5, 1), user(5, 1, 1), claimed(5, 4, 1), opening(5, 2)}},
		"Log 1, claimed":            {Node: 1, Log: 1, Items: []api.Item{opening(1, 2)}},
	}
	for node := 1; node <= 3; node++ {
		for _, commit := range []int{0, 1, 19, 20} {
			out[fmt.Sprintf("node %d, Commit %d of 20", node, commit)] = tail(node, 5, 20, commit)
		}
	}
	return out
}

// wrongTails are right but for one thing.
func wrongTails() map[string]api.Tail {
	l := opened(20, 5)
	out := map[string]api.Tail{
		"zero":                       {},
		"only a Node":                {Node: 1},
		"only a Log":                 {Log: 1},
		"2001 items":                 tail(1, 5, 2001, 0),
		"2001 items of Log 1":        tail(1, 1, 2001, 0),
		"an item above Log":          {Node: 1, Log: 5, Items: behind(l, user(6, 1, 90000))},
		"an item above Log 1":        {Node: 1, Log: 1, Items: []api.Item{user(2, 1, 1)}},
		"an Epoch that falls":        {Node: 1, Log: 5, Items: with(l, 3, user(2, 1, 9000))},
		"a last Epoch that falls":    {Node: 1, Log: 5, Items: with(l, 19, user(4, 1, 90000))},
		"no leader":                  {Node: 1, Log: 5},
		"no leader in items":         {Node: 1, Log: 5, Items: plain(20, 5, 1)},
		"a leader of another epoch":  {Node: 1, Log: 5, Items: []api.Item{opening(4, 2)}},
		"a claim of another epoch":   {Node: 1, Log: 5, Items: []api.Item{claimed(5, 4, 2)}},
		"a claim in another epoch":   {Node: 1, Log: 5, Items: []api.Item{claimed(4, 5, 2), user(5, 1, 1)}},
		"a Log that nobody opened":   tail(1, 5, 20, 0),
		"a Log below its items":      tail(1, 5, 20, 0),
		"Log 1 below its items":      tail(1, 5, 20, 0),
		"Commit above, of no items":  {Node: 1, Log: 1, Commit: 1},
		"Commit below, of no items":  {Node: 1, Log: 1, Commit: -1},
		"Commit above the number":    tail(1, 5, 20, 21),
		"Commit above 2000 items":    tail(1, 5, 2000, 2001),
		"Commit that room would do":  {Node: 1, Log: 1, Items: plain(20, 1, 1)[:10], Commit: 11},
		"a claim of Log that is not": {Node: 1, Log: 5, Items: []api.Item{claimed(5, 5, 4)}},
	}
	out["a Log that nobody opened"] = changed(out["a Log that nobody opened"], func(t *api.Tail) { t.Log = 6 })
	out["a Log below its items"] = changed(out["a Log below its items"], func(t *api.Tail) { t.Log = 4 })
	out["Log 1 below its items"] = changed(out["Log 1 below its items"], func(t *api.Tail) { t.Log = 1 })
	for _, n := range among(farOff, 0) {
		out[fmt.Sprintf("Log %d", n)] = changed(tail(1, 5, 20, 0), func(t *api.Tail) { t.Log = n })
		out[fmt.Sprintf("Log %d without items", n)] = api.Tail{Node: 1, Log: n}
		out[fmt.Sprintf("opened Log %d", n)] = api.Tail{Node: 1, Log: n, Items: []api.Item{opening(n, 1)}}
	}
	for _, n := range among(farOff, 0, 4, 5, 257) {
		out[fmt.Sprintf("Node %d", n)] = tail(n, 5, 20, 0)
	}
	for _, n := range farOff {
		out[fmt.Sprintf("Commit %d", n)] = tail(1, 5, 20, n)
	}
	for i, x := range wrongItems() {
		out[fmt.Sprintf("the wrong item %d alone", i)] = api.Tail{Node: 1, Log: 1, Items: []api.Item{x}}
		for _, at := range []int{0, 9, 19} {
			out[fmt.Sprintf("the wrong item %d at %d", i, at)] = api.Tail{Node: 1, Log: 5, Items: with(l, at, x)}
		}
	}
	return out
}

// brief tells a thing that may be very long, and any bytes.
func brief(x any) string {
	switch y := x.(type) {
	case api.Tail:
		return fmt.Sprintf("Node %d, Log %d, Commit %d, %d items: ", y.Node, y.Log, y.Commit, len(y.Items)) + short(y.Items)
	case []api.Tail:
		var b strings.Builder
		fmt.Fprintf(&b, "%d tails", len(y))
		for _, t := range y[:min(len(y), 6)] {
			fmt.Fprintf(&b, "; Node %d, Log %d, Commit %d, %d items", t.Node, t.Log, t.Commit, len(t.Items))
		}
		return b.String()
	case []api.Item:
		return fmt.Sprintf("%d items: ", len(y)) + short(y)
	}
	return short(x)
}

func short(x any) string {
	s := strings.ToValidUTF8(fmt.Sprintf("%+v", x), "?")
	return s[:min(len(s), 300)]
}

func same(a, b api.Tail) bool {
	return a.Node == b.Node && a.Log == b.Log && a.Commit == b.Commit && slices.Equal(a.Items, b.Items)
}

func sameTails(a, b []api.Tail) bool { return slices.EqualFunc(a, b, same) }

// apart is l in new memory, all of it.
func apart(l []api.Tail) []api.Tail {
	var out []api.Tail
	for _, t := range l {
		t.Items = behind(t.Items)
		out = append(out, t)
	}
	return out
}
