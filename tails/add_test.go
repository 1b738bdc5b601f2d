package tails_test

import (
	"testing"

	"estreat/api"
	"estreat/tails"
)

// wantAdd holds Add against the words.
func wantAdd(t *testing.T, l []api.Tail, x api.Tail) []api.Tail {
	t.Helper()
	got, want := tails.Add(l, x), added(l, x)
	if !sameTails(got, want) {
		t.Errorf("P16.1: Add is %s; want %s; of %s; %s", brief(got), brief(want), brief(l), brief(x))
	}
	return got
}

// nodes are tails of these Nodes, no two of which are alike.
func nodes(l ...int) []api.Tail {
	var out []api.Tail
	for i, n := range l {
		out = append(out, loose(n, 1+i, i%3, i, 100+i))
	}
	return out
}

func TestAddAtEachPlace(t *testing.T) {
	for _, x := range []struct {
		name string
		l    []int
		node int
		want []int
	}{
		{"none", nil, 2, []int{2}},
		{"ahead of all", []int{2, 3}, 1, []int{1, 2, 3}},
		{"in the midst", []int{1, 3}, 2, []int{1, 2, 3}},
		{"behind all", []int{1, 2}, 3, []int{1, 2, 3}},
		{"there first", []int{1, 2, 3}, 1, []int{1, 2, 3}},
		{"there in the midst", []int{1, 2, 3}, 2, []int{1, 2, 3}},
		{"there last", []int{1, 2, 3}, 3, []int{1, 2, 3}},
		{"there alone", []int{2}, 2, []int{2}},
		{"there alone, twice", []int{2, 2}, 2, []int{2}},
		{"there several times", []int{2, 1, 2, 3, 2, 2}, 2, []int{1, 2, 3}},
		{"there several times, first and last", []int{1, 3, 1, 2, 1}, 1, []int{1, 3, 2}},
		{"another one several times", []int{1, 3, 1, 3}, 2, []int{1, 2, 3, 1, 3}},
		{"in no order", []int{3, 1, 2}, 1, []int{1, 3, 2}},
		{"in no order, of the greatest", []int{3, 1, 2}, 3, []int{1, 2, 3}},
		{"in no order, in the midst", []int{1, 3, 1}, 2, []int{1, 2, 3, 1}},
		{"falling", []int{3, 2, 1}, 2, []int{2, 3, 1}},
		{"nodes that there are not", []int{-7, 0, 4, 9}, 2, []int{-7, 0, 2, 4, 9}},
		{"a node that there is not", []int{1, 2, 3}, 0, []int{0, 1, 2, 3}},
		{"a node above all", []int{1, 2, 3}, 4, []int{1, 2, 3, 4}},
		{"a node that there is not, twice", []int{4, 1, 4}, 4, []int{1, 4}},
		{"a node far below", []int{farOff[1], 1, farOff[19]}, farOff[0], []int{farOff[0], farOff[1], 1, farOff[19]}},
		{"a node far above", []int{farOff[0], 1, farOff[18]}, farOff[19], []int{farOff[0], 1, farOff[18], farOff[19]}},
	} {
		one := loose(x.node, 77, 5, 3, 7777)
		got := wantAdd(t, nodes(x.l...), one)
		var l []int
		for _, y := range got {
			l = append(l, y.Node)
			if (y.Node == x.node) != same(y, one) {
				t.Errorf("P16.1: Add, %s: there is %s", x.name, brief(y))
			}
		}
		if !sameNumbers(l, x.want) {
			t.Errorf("P16.1: Add, %s: the Nodes are %v, want %v", x.name, l, x.want)
		}
	}
}

func sameNumbers(a, b []int) bool { return sameTails(bare(a), bare(b)) }

func bare(l []int) []api.Tail {
	var out []api.Tail
	for _, n := range l {
		out = append(out, api.Tail{Node: n})
	}
	return out
}

// All rows of up to five tails of five nodes, each with a tail of each node.
func TestAddToAllShortRows(t *testing.T) {
	var walk func(l []int)
	walk = func(l []int) {
		for node := range 5 {
			wantAdd(t, nodes(l...), loose(node, 3, 2, 1, 900))
			if len(l) < 5 {
				walk(append(l[:len(l):len(l)], node))
			}
		}
	}
	walk(nil)
}

// Tails that are not right are laid all the same, and stay as they are.
func TestAddAsksNotWhatIsRight(t *testing.T) {
	for name, x := range wrongTails() {
		got := wantAdd(t, nodes(1, 2, 3), x)
		found := 0
		for _, y := range got {
			if same(x, y) {
				found++
			}
		}
		if found != 1 {
			t.Errorf("P16.1: what Add tells has %s %d times", name, found)
		}
		wantAdd(t, []api.Tail{x, x}, loose(2, 1, 1, 1, 1))
		wantAdd(t, []api.Tail{x, tail(3, 5, 9, 3)}, x)
	}
}

func TestAddOfNodesOneByOne(t *testing.T) {
	for _, order := range [][]int{{1, 2, 3}, {1, 3, 2}, {2, 1, 3}, {2, 3, 1}, {3, 1, 2}, {3, 2, 1}} {
		var l []api.Tail
		for range 2 {
			for i, n := range order {
				l = wantAdd(t, l, tail(n, 5, 9+i, i))
			}
		}
		if len(l) != 3 || l[0].Node != 1 || l[1].Node != 2 || l[2].Node != 3 {
			t.Errorf("P16.1: tails that come as %v make %s", order, brief(l))
		}
	}
}
