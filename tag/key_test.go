package tag_test

import (
	"math"
	"testing"

	"estreat/api"
	"estreat/tag"
)

// noRegions are numbers that no region has; the lowest byte of some is that of one.
var noRegions = []int{
	0, -1, -2, -3, -5, -6, 6, 7, 8, 10, 100, 127, 128, 255, 256, 257, 258, 261, 512 + 1, 65536 + 5, 1<<31 + 1, 1<<32 + 1, 1<<32 + 5, 1<<40 + 2, 1<<62 + 3,
	-251, -252, -255, -256 + 4, -65536 + 1, -1<<32 + 1, -1<<62 + 5, math.MinInt, math.MinInt + 1, math.MinInt + 5, math.MinInt32, math.MaxInt32, math.MaxInt - 1, math.MaxInt,
}

// noNodes are as many, that no node has.
var noNodes = []int{
	0, -1, -2, -3, -4, 4, 5, 6, 7, 10, 100, 127, 128, 255, 256, 257, 258, 259, 512 + 1, 65536 + 3, 1<<31 + 1, 1<<32 + 1, 1<<32 + 3, 1<<40 + 2, 1<<62 + 3,
	-253, -254, -255, -65536 + 1, -1<<32 + 1, -1<<62 + 3, math.MinInt, math.MinInt + 1, math.MinInt + 3, math.MinInt32, math.MaxInt32, math.MaxInt - 1, math.MaxInt,
}

// eachNode calls with all regions and nodes that there are.
func eachNode(call func(region, node int)) {
	for region := 1; region <= 5; region++ {
		for node := 1; node <= 3; node++ {
			call(region, node)
		}
	}
}

// eachWrong calls with a wrong region, with a wrong node, and with both at once.
func eachWrong(call func(region, node int)) {
	for _, region := range noRegions {
		for node := 1; node <= 3; node++ {
			call(region, node)
		}
		for _, node := range noNodes {
			call(region, node)
		}
	}
	for _, node := range noNodes {
		for region := 1; region <= 5; region++ {
			call(region, node)
		}
	}
}

// keyOf is worked out by the library.
func keyOf(master api.Key, region, node int) api.Key {
	return api.Key(macOf(master, string([]byte{75, byte(region), byte(node)})))
}

func TestKeyOfEveryNode(t *testing.T) {
	for _, master := range keys() {
		eachNode(func(region, node int) {
			if k, e := tag.Key(master, region, node); k != keyOf(master, region, node) || e != api.OK {
				t.Errorf("P6.2: Key(%x, %d, %d) is %x, %d; want %x", master, region, node, k, e, keyOf(master, region, node))
			}
		})
	}
}

// The limits are those of package api, and have the numbers that the chapter tells.
func TestKeyAtTheEdges(t *testing.T) {
	for _, x := range []struct {
		region, node int
		want         api.Errno
	}{
		{0, 1, api.ErrTagKey}, {1, 0, api.ErrTagKey}, {1, 1, api.OK}, {1, 3, api.OK}, {1, 4, api.ErrTagKey},
		{5, 0, api.ErrTagKey}, {5, 1, api.OK}, {5, 3, api.OK}, {5, 4, api.ErrTagKey}, {6, 1, api.ErrTagKey}, {6, 3, api.ErrTagKey},
		{api.MaxRegions, api.Nodes, api.OK}, {api.MaxRegions + 1, api.Nodes, api.ErrTagKey}, {api.MaxRegions, api.Nodes + 1, api.ErrTagKey},
		{0, 0, api.ErrTagKey}, {6, 4, api.ErrTagKey}, {0, 4, api.ErrTagKey}, {6, 0, api.ErrTagKey},
		// A client's address has region 0.
		{0, 2, api.ErrTagKey}, {0, 3, api.ErrTagKey},
		// A node's number is no region's, the other way round.
		{3, 5, api.ErrTagKey}, {5, 5, api.ErrTagKey}, {3, 3, api.OK},
	} {
		k, e := tag.Key(api.Key{}, x.region, x.node)
		if e != x.want || (e == api.OK) != (k != api.Key{}) {
			t.Errorf("P6.2: Key(0, %d, %d) is %x, %d; want %d", x.region, x.node, k, e, x.want)
		}
	}
}

func TestKeyRefusesWhoIsNoNode(t *testing.T) {
	for _, master := range keys() {
		eachWrong(func(region, node int) {
			if k, e := tag.Key(master, region, node); k != (api.Key{}) || e != api.ErrTagKey {
				t.Errorf("P6.2: Key(%x, %d, %d) is %x, %d; want zero, ErrTagKey", master, region, node, k, e)
			}
		})
	}
}

func TestKeysAreUnlike(t *testing.T) {
	seen := map[api.Key]int{}
	for _, master := range keys() {
		if seen[master]++; seen[master] > 1 {
			t.Errorf("P6.2: %x is a master and a node's key", master)
		}
		eachNode(func(region, node int) {
			k, e := tag.Key(master, region, node)
			if seen[k]++; seen[k] > 1 || e != api.OK {
				t.Errorf("P6.2: Key(%x, %d, %d) is %x, %d: another has it too", master, region, node, k, e)
			}
		})
	}
}
