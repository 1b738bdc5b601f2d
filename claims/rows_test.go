package claims_test

import (
	"math"
	"slices"
	"testing"

	"estreat/api"
	"estreat/claims"
)

func wantAdd(t *testing.T, l []api.Addr, a api.Addr) {
	t.Helper()
	want := withAddr(l, a)
	if got := claims.Add(l, a); !slices.Equal(got, want) {
		t.Errorf("P12.3: Add of %v to %s is %s; want %s", a, brief(l), brief(got), brief(want))
	}
}

func wantEnough(t *testing.T, regions, region int, l []api.Addr) {
	t.Helper()
	want := isEnough(regions, region, l)
	if got := claims.Enough(regions, region, l); got != want {
		t.Errorf("P12.3: Enough(%d, %d, %s) is %v", regions, region, brief(l), got)
	}
}

func TestAddAtEachPlace(t *testing.T) {
	l := []api.Addr{at(1, 2), at(1, 4), at(2, 1), at(4, 4)}
	for _, x := range []struct{ region, node, place int }{
		{0, 9, 0}, {1, 1, 0}, {-5, 3, 0},
		{1, 3, 1},
		{1, 5, 2}, {1, 900, 2}, {2, 0, 2}, {2, -3, 2},
		{2, 2, 3}, {3, 1, 3}, {3, 9, 3}, {4, 3, 3}, {4, -1, 3},
		{4, 5, 4}, {5, 1, 4}, {5, -7, 4}, {1 << 40, 0, 4},
	} {
		a := at(x.region, x.node)
		if got := claims.Add(l, a); !slices.Equal(got, slices.Insert(slices.Clone(l), x.place, a)) {
			t.Errorf("P12.3: Add of %v to %v is %v", a, l, got)
		}
	}
	for _, a := range l {
		if got := claims.Add(l, a); !slices.Equal(got, l) {
			t.Errorf("P12.3: Add of %v, which is there, is %v", a, got)
		}
	}
}

func TestAddToNoAddresses(t *testing.T) {
	for _, none := range [][]api.Addr{nil, {}} {
		for _, a := range []api.Addr{at(1, 1), at(0, 0), at(-1, 7), at(math.MaxInt, math.MinInt)} {
			if got := claims.Add(none, a); !slices.Equal(got, []api.Addr{a}) {
				t.Errorf("P12.3: Add of %v to none is %v", a, got)
			}
		}
	}
}

// Addresses need not rise: what counts is the first one behind.
func TestAddToAddressesThatDoNotRise(t *testing.T) {
	for _, x := range []struct {
		l    []api.Addr
		a    api.Addr
		want []api.Addr
	}{
		{[]api.Addr{at(3, 1), at(1, 1)}, at(2, 1), []api.Addr{at(2, 1), at(3, 1), at(1, 1)}},
		{[]api.Addr{at(1, 1), at(3, 1), at(1, 1)}, at(2, 1), []api.Addr{at(1, 1), at(2, 1), at(3, 1), at(1, 1)}},
		{[]api.Addr{at(1, 1), at(3, 1), at(1, 1), at(3, 1)}, at(2, 1), []api.Addr{at(1, 1), at(2, 1), at(3, 1), at(1, 1), at(3, 1)}},
		{[]api.Addr{at(3, 1), at(2, 1), at(1, 1)}, at(1, 1), []api.Addr{at(3, 1), at(2, 1), at(1, 1)}},
		{[]api.Addr{at(3, 1), at(2, 1), at(1, 1)}, at(4, 1), []api.Addr{at(3, 1), at(2, 1), at(1, 1), at(4, 1)}},
		{[]api.Addr{at(2, 3), at(2, 1)}, at(2, 2), []api.Addr{at(2, 2), at(2, 3), at(2, 1)}},
		{[]api.Addr{at(2, 2), at(2, 2)}, at(2, 2), []api.Addr{at(2, 2), at(2, 2)}},
		{[]api.Addr{at(2, 2), at(2, 2)}, at(2, 1), []api.Addr{at(2, 1), at(2, 2), at(2, 2)}},
		{[]api.Addr{at(2, 2), at(2, 2)}, at(2, 3), []api.Addr{at(2, 2), at(2, 2), at(2, 3)}},
		// It is there, behind one that stands behind it.
		{[]api.Addr{at(5, 5), at(1, 2)}, at(1, 2), []api.Addr{at(5, 5), at(1, 2)}},
	} {
		if got := claims.Add(x.l, x.a); !slices.Equal(got, x.want) {
			t.Errorf("P12.3: Add of %v to %v is %v; want %v", x.a, x.l, got, x.want)
		}
	}
}

// All rows of up to four of nine addresses, rising or not.
func TestAddToAllSmallRows(t *testing.T) {
	var all []api.Addr
	for region := range 3 {
		for node := range 3 {
			all = append(all, at(region, node))
		}
	}
	var grow func(l []api.Addr)
	grow = func(l []api.Addr) {
		for _, a := range all {
			wantAdd(t, l, a)
			if len(l) < 4 && !t.Failed() {
				grow(append(slices.Clone(l), a))
			}
		}
	}
	grow(nil)
}

// Numbers so far from one another that their difference is no int.
func TestAddOfNumbersFarApart(t *testing.T) {
	var all []api.Addr
	for _, region := range []int{math.MinInt, -1, 0, 1, math.MaxInt} {
		for _, node := range []int{math.MinInt, -1, 0, 1, math.MaxInt} {
			all = append(all, at(region, node))
		}
	}
	for i, a := range all {
		for j, b := range all {
			want := []api.Addr{a, b}
			if i > j {
				want = []api.Addr{b, a}
			}
			if i == j {
				want = want[:1]
			}
			if got := claims.Add([]api.Addr{a}, b); !slices.Equal(got, want) {
				t.Errorf("P12.3: Add of %v to %v is %v", b, a, got)
			}
		}
	}
}

// What comes one by one rises, and has each address once, in whatever order it comes and however often.
func TestAddsInAnyOrder(t *testing.T) {
	var want []api.Addr
	for i := range 53 {
		want = append(want, at(1+i/6, i%6))
	}
	for step := 1; step < 53; step++ {
		var l []api.Addr
		for i := range 106 {
			l = claims.Add(l, want[i*step%53])
			if len(l) != min(i+1, 53) {
				t.Fatalf("P12.3: after %d addresses at steps of %d there are %d", i+1, step, len(l))
			}
		}
		if !slices.Equal(l, want) {
			t.Errorf("P12.4: addresses that come at steps of %d are %v", step, l)
		}
	}
}

func TestEnoughOfTheChapter(t *testing.T) {
	for _, x := range []struct {
		regions, region int
		l               []api.Addr
		want            bool
	}{
		{3, 1, []api.Addr{at(2, 1), at(2, 3), at(3, 1), at(3, 2)}, true},
		{3, 1, []api.Addr{at(2, 1), at(2, 3), at(3, 1)}, false},
		{4, 1, []api.Addr{at(2, 1), at(2, 2), at(3, 1), at(3, 2)}, true},
		{3, 1, []api.Addr{at(1, 1), at(1, 2), at(2, 1), at(2, 2)}, false},
	} {
		if got := claims.Enough(x.regions, x.region, x.l); got != x.want {
			t.Errorf("P12.3: Enough(%d, %d, %v) is %v", x.regions, x.region, x.l, got)
		}
	}
}

// pairs are two nodes of each of so many other regions, all that there are of such choices being tried by the caller.
func pairs(regions, region, mask int, two [2]int) []api.Addr {
	var l []api.Addr
	for r := 1; r <= regions; r++ {
		if r != region && mask>>r&1 == 1 {
			l = append(l, at(r, two[0]), at(r, two[1]))
		}
	}
	return l
}

// More than half of the others: 2 of 2, 2 of 3, 3 of 4.
func TestEnoughIsMoreThanHalfOfTheOthers(t *testing.T) {
	for regions, needed := range map[int]int{3: 2, 4: 2, 5: 3} {
		for region := 1; region <= regions; region++ {
			for mask := range 1 << 6 {
				for _, two := range [][2]int{{1, 2}, {1, 3}, {2, 3}, {3, 1}} {
					l := pairs(regions, region, mask, two)
					if got := claims.Enough(regions, region, l); got != (len(l)/2 >= needed) {
						t.Errorf("P12.3: Enough(%d, %d) with %d others, %v, is %v", regions, region, len(l)/2, l, got)
					}
				}
			}
		}
	}
}

// One node of a region is not enough, two and three are.
func TestEnoughTakesTwoNodesOfARegion(t *testing.T) {
	for regions := 3; regions <= 5; regions++ {
		for region := 1; region <= regions; region++ {
			for nodes := 0; nodes <= 3; nodes++ {
				for first := range 3 {
					var l []api.Addr
					for r := 1; r <= regions; r++ {
						for i := range nodes {
							l = append(l, at(r, 1+(first+i)%3))
						}
					}
					if got := claims.Enough(regions, region, l); got != (nodes >= 2) {
						t.Errorf("P12.3: Enough(%d, %d, %v) is %v", regions, region, l, got)
					}
				}
			}
		}
	}
}

// Three nodes of a region are no more than two: it takes other regions.
func TestEnoughCountsRegionsNotNodes(t *testing.T) {
	for _, x := range []struct {
		regions int
		l       []api.Addr
	}{
		{3, []api.Addr{at(2, 1), at(2, 2), at(2, 3), at(3, 1)}},
		{4, []api.Addr{at(2, 1), at(2, 2), at(2, 3), at(3, 1), at(4, 1)}},
		{5, []api.Addr{at(2, 1), at(2, 2), at(2, 3), at(3, 1), at(3, 2), at(3, 3), at(4, 1), at(5, 1)}},
	} {
		if claims.Enough(x.regions, 1, x.l) {
			t.Errorf("P12.3: Enough(%d, 1, %v) is true", x.regions, x.l)
		}
	}
}

// Of all nodes of the other regions, each choice; and then with the region's own nodes, which change nothing.
func TestEnoughOfAllRows(t *testing.T) {
	t.Parallel()
	for regions := 3; regions <= 5; regions++ {
		for region := 1; region <= regions; region++ {
			all := othersOf(regions, region)
			own := []api.Addr{at(region, 1), at(region, 2), at(region, 3)}
			for mask := range 1 << len(all) {
				l := chosen(all, mask)
				wantEnough(t, regions, region, l)
				wantEnough(t, regions, region, append(l, own...))
				if t.Failed() {
					return
				}
			}
			wantEnough(t, regions, region, own)
		}
	}
}

// An address twice is one node; an order is none that counts.
func TestEnoughOfAddressesTwice(t *testing.T) {
	for regions := 3; regions <= 5; regions++ {
		for region := 1; region <= regions; region++ {
			var ones []api.Addr
			for r := 1; r <= regions; r++ {
				ones = append(ones, at(r, 1+r%3))
			}
			many := slices.Repeat(ones, 5)
			if claims.Enough(regions, region, many) {
				t.Errorf("P12.3: Enough(%d, %d, %v) is true", regions, region, many)
			}
			l := slices.Repeat(othersOf(regions, region), 3)
			if !claims.Enough(regions, region, l) {
				t.Errorf("P12.3: Enough(%d, %d, %v) is false", regions, region, l)
			}
			slices.Reverse(l)
			if !claims.Enough(regions, region, l) {
				t.Errorf("P12.3: Enough(%d, %d, %v) is false", regions, region, l)
			}
		}
	}
}

// Nodes and regions that are not there count for nothing.
func TestEnoughOfAddressesThatAreNotThere(t *testing.T) {
	for regions := 3; regions <= 5; regions++ {
		var l []api.Addr
		for r := 1; r <= regions; r++ {
			for _, node := range append(farOff, 0, 4, 5, 257, 258, 259) {
				l = append(l, at(r, node))
			}
			l = append(l, at(r, 2)) // one that is there
		}
		for _, r := range append(farOff, 0, regions+1, regions+2, 257, 258, 259) {
			l = append(l, at(r, 1), at(r, 2), at(r, 3))
		}
		for region := 1; region <= regions; region++ {
			if claims.Enough(regions, region, l) {
				t.Errorf("P12.3: Enough(%d, %d) of nodes that are not there is true", regions, region)
			}
			for mask := range 1 << 6 { // with just half of the others, too, where one more would do
				wantEnough(t, regions, region, append(l, pairs(regions, region, mask, [2]int{1, 3})...))
			}
		}
	}
}

func TestEnoughOfOtherNumbersOfRegions(t *testing.T) {
	all := othersOf(7, 0)
	for regions := 3; regions <= 5; regions++ {
		for region := 1; region <= regions; region++ {
			if !claims.Enough(regions, region, all) {
				t.Errorf("P12.3: Enough(%d, %d) of all nodes is false", regions, region)
			}
		}
		for _, region := range append(farOff, 0, regions+1, regions+2, 257) {
			if claims.Enough(regions, region, all) {
				t.Errorf("P12.3: Enough(%d, %d) of all nodes is true", regions, region)
			}
		}
	}
	for _, regions := range append(farOff, 0, 1, 2, 6, 7, 255, 256+3, 65536+4) {
		for _, region := range append(farOff, 0, 1, 2, 3, 6, 7, regions) {
			if claims.Enough(regions, region, all) {
				t.Errorf("P12.3: Enough(%d, %d) of all nodes is true", regions, region)
			}
		}
	}
}

func TestEnoughOfNone(t *testing.T) {
	for regions := 3; regions <= 5; regions++ {
		for region := 1; region <= regions; region++ {
			if claims.Enough(regions, region, nil) || claims.Enough(regions, region, []api.Addr{}) {
				t.Errorf("P12.3: Enough(%d, %d) of none is true", regions, region)
			}
		}
	}
}

// Each two rows that are enough for one region have an address in common.
func TestRowsThatAreEnoughMeet(t *testing.T) {
	t.Parallel()
	for regions := 3; regions <= 5; regions++ {
		for region := 1; region <= regions; region++ {
			all := othersOf(regions, region)
			var enough []int
			for mask := range 1 << len(all) {
				if claims.Enough(regions, region, chosen(all, mask)) {
					enough = append(enough, mask)
				}
			}
			if len(enough) == 0 || len(enough) == 1<<len(all) {
				t.Fatalf("P12.4: of %d regions %d rows are enough for region %d", regions, len(enough), region)
			}
			for i, a := range enough {
				for _, b := range enough[i:] {
					if a&b == 0 {
						t.Fatalf("P12.4: %v and %v are enough for region %d of %d", chosen(all, a), chosen(all, b), region, regions)
					}
				}
			}
		}
	}
}

// As each node records one claim of a Region and Epoch at most, one claim of these has enough at most: whoever comes first at which node.
func TestNoTwoClaimsAreRecordedByEnough(t *testing.T) {
	t.Parallel()
	c := claim(1, 7)
	d := others(c)[0]
	for regions := 3; regions <= 4; regions++ {
		all := othersOf(regions, 1)
		for mask := range 1 << len(all) {
			var forC, forD []api.Addr
			for i, a := range all {
				first, then := c, d
				if mask>>i&1 == 1 {
					first, then = d, c
				}
				l, _ := claims.Record(nil, first)
				if _, e := claims.Record(l, then); e != api.ErrClaimsOther {
					t.Fatalf("P12.4: %v records two claims of one Region and Epoch: %d", a, e)
				}
				if there, _ := claims.Find(l, 1, 7); there == c {
					forC = claims.Add(forC, a)
				} else {
					forD = claims.Add(forD, a)
				}
			}
			if claims.Enough(regions, 1, forC) && claims.Enough(regions, 1, forD) {
				t.Fatalf("P12.4: %v and %v are both enough", forC, forD)
			}
		}
	}
}
