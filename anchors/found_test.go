package anchors_test

import (
	"testing"

	"estreat/anchors"
	"estreat/api"
)

// wantLatest holds Latest against the words.
func wantLatest(t *testing.T, l []api.Item, region int) {
	t.Helper()
	want, there := latestIn(l, region)
	if s, ok := anchors.Latest(l, region); s != want || ok != there {
		t.Errorf("P13.1: Latest(%s, %d) is %+v, %v; want %+v, %v", brief(l), region, s, ok, want, there)
	}
}

// wantPlace holds Place against the words.
func wantPlace(t *testing.T, l []api.Item, region, size int) {
	t.Helper()
	want, there := placeIn(l, region, size)
	if i, ok := anchors.Place(l, region, size); i != want || ok != there {
		t.Errorf("P13.1: Place(%s, %d, %d) is %d, %v; want %d, %v", brief(l), region, size, i, ok, want, there)
	}
}

func wantNone(t *testing.T, l []api.Item, region int) {
	t.Helper()
	if s, ok := anchors.Latest(l, region); s != (api.Signed{}) || ok {
		t.Errorf("P13.1: Latest(%s, %d) is %+v, %v; want none", brief(l), region, s, ok)
	}
	for _, size := range append(farOff, 0, 1, 2, 3) {
		if i, ok := anchors.Place(l, region, size); i != 0 || ok {
			t.Errorf("P13.1: Place(%s, %d, %d) is %d, %v; want none", brief(l), region, size, i, ok)
		}
	}
}

func TestLatestOfTheChapter(t *testing.T) {
	a := signed(master, api.Head{Region: 2, Epoch: 1, Root: empty}, 1)
	l := []api.Item{anchor(1, a)}
	if s, ok := anchors.Latest(l, 2); s != a || !ok {
		t.Errorf("P13.1: Latest(an item of A, 2) is %+v, %v", s, ok)
	}
	wantNone(t, l, 3)
}

func TestLogsWithoutAnAnchorOfTheRegion(t *testing.T) {
	for _, region := range append(farOff, 0, 1, 2, 3, 4, 5, 6) {
		for _, l := range [][]api.Item{nil, {}, filled(1), filled(2), filled(40), filled(2000)} {
			wantNone(t, l, region)
		}
	}
	others := behind(filled(5), loose(1, 9, 9), loose(3, 9, 9), user(1, 90), loose(4, 9, 9), loose(5, 9, 9))
	for _, region := range append(farOff, 0, 2, 6, 257, 258) {
		wantNone(t, others, region)
	}
}

func TestLatestIsTheLastOfSeveral(t *testing.T) {
	one, two, three := loose(2, 5, 8), loose(2, 5, 3), loose(2, 1, 6)
	for _, x := range []struct {
		l    []api.Item
		want api.Item
	}{
		{[]api.Item{one}, one},
		{[]api.Item{one, user(1, 1)}, one},
		{[]api.Item{user(1, 1), one, claim(1), loose(3, 9, 9), user(1, 2), loose(1, 9, 9)}, one},
		{[]api.Item{one, two}, two},
		{[]api.Item{two, one}, one},
		{[]api.Item{one, two, three}, three},
		{[]api.Item{one, loose(3, 9, 9), two, loose(3, 9, 9), three, user(1, 1), loose(3, 9, 9), claim(1)}, three},
		{behind(filled(900), one, three, two, one, loose(5, 1, 1), two, user(1, 999), claim(1)), two},
		{[]api.Item{one, one, one}, one},
	} {
		if s, ok := anchors.Latest(x.l, 2); s != x.want.Entry.Head || !ok {
			t.Errorf("P13.1: Latest(%s, 2) is %+v, %v; want %+v", brief(x.l), s, ok, x.want.Entry.Head)
		}
	}
}

func TestPlaceBesideASize(t *testing.T) {
	for _, size := range []int{0, 1, 2, 255, 256, 2000, 65536, 99999, 100000} {
		for _, at := range []int{0, 1, 2, 9, 1999} {
			l := behind(filled(at), loose(2, 1, size))
			for _, x := range []struct {
				size int
				ok   bool
			}{{-1, true}, {size - 1, true}, {size, false}, {size + 1, false}, {1 << 62, false}, {-1 << 62, true}} {
				want := 0
				if x.ok {
					want = at
				}
				if i, ok := anchors.Place(l, 2, x.size); i != want || ok != x.ok {
					t.Errorf("P13.1: Place of an anchor of size %d at %d, for %d, is %d, %v", size, at, x.size, i, ok)
				}
			}
		}
	}
}

func TestPlaceIsTheFirstOfSeveral(t *testing.T) {
	l := []api.Item{
		user(1, 1), loose(3, 1, 90), loose(2, 1, 0), claim(1), loose(2, 1, 4), loose(2, 1, 4),
		loose(3, 1, 90), loose(2, 1, 9), user(1, 2), loose(2, 1, 12), loose(1, 1, 90),
	}
	for _, x := range []struct{ size, want int }{
		{-1 << 62, 2}, {-2, 2}, {-1, 2}, {0, 4}, {1, 4}, {3, 4}, {4, 7}, {5, 7}, {8, 7}, {9, 9}, {11, 9},
	} {
		if i, ok := anchors.Place(l, 2, x.size); i != x.want || !ok {
			t.Errorf("P13.1: Place for %d is %d, %v; want %d", x.size, i, ok, x.want)
		}
	}
	for _, size := range []int{12, 13, 90, 1 << 62} {
		if i, ok := anchors.Place(l, 2, size); i != 0 || ok {
			t.Errorf("P13.1: Place for %d is %d, %v; want none", size, i, ok)
		}
	}
}

// A right log may have Sizes that fall: the place is the first one all the same.
func TestPlaceWhereSizesFall(t *testing.T) {
	l := []api.Item{loose(2, 1, 5), loose(2, 1, 9), loose(2, 1, 2), loose(2, 1, 7), loose(2, 1, 9)}
	for _, x := range []struct {
		size, want int
		ok         bool
	}{{1, 0, true}, {4, 0, true}, {5, 1, true}, {6, 1, true}, {8, 1, true}, {9, 0, false}} {
		if i, ok := anchors.Place(l, 2, x.size); i != x.want || ok != x.ok {
			t.Errorf("P13.1: Place for %d is %d, %v; want %d, %v", x.size, i, ok, x.want, x.ok)
		}
	}
}

// A first place that is found, 0, is told apart from none by true alone.
func TestPlaceOfTheFirstItem(t *testing.T) {
	l := []api.Item{loose(2, 1, 5), user(1, 1)}
	if i, ok := anchors.Place(l, 2, 4); i != 0 || !ok {
		t.Errorf("P13.1: Place of the first item is %d, %v", i, ok)
	}
}

// A head that stands in an item of another kind is no anchor.
func TestOnlyAnchorsAreFound(t *testing.T) {
	for _, kind := range append(farOff, 0, 1, 3, 4, 258) {
		x := loose(2, 1, 5)
		x.Entry.Kind = api.EntryKind(kind)
		wantNone(t, []api.Item{x}, 2)
		l := []api.Item{x, loose(2, 1, 4), x}
		wantLatest(t, l, 2)
		wantPlace(t, l, 2, 3)
		wantPlace(t, l, 2, 4)
	}
	c := claim(1)
	c.Entry.Claim.Region, c.Entry.Claim.Size = 2, 9
	wantNone(t, []api.Item{c}, 2)
}

// Of nothing that is looked at is it asked whether it is right.
func TestAnchorsOfWrongLogsAreFound(t *testing.T) {
	for _, l := range wrongLogs() {
		for region := -1; region <= 7; region++ {
			wantLatest(t, l, region)
			for size := -1; size < 5; size++ {
				wantPlace(t, l, region, size)
			}
		}
	}
	for _, region := range append(farOff, 0, 6) {
		l := []api.Item{loose(2, 1, 9), loose(region, -5, -9), loose(2, 1, 9)}
		if s, ok := anchors.Latest(l, region); s != l[1].Entry.Head || !ok {
			t.Errorf("P13.1: Latest of region %d is %+v, %v", region, s, ok)
		}
		if i, ok := anchors.Place(l, region, -10); i != 1 || !ok {
			t.Errorf("P13.1: Place of region %d is %d, %v", region, i, ok)
		}
		wantPlace(t, l, region, -9)
	}
}

// allLogs calls do with every log of at most so many items out of some; the log is the same memory each time.
func allLogs(most int, some []api.Item, do func([]api.Item)) {
	var l []api.Item
	var grow func()
	grow = func() {
		do(l)
		if len(l) == most {
			return
		}
		for _, x := range some {
			l = append(l, x)
			grow()
			l = l[:len(l)-1]
		}
	}
	grow()
}

func TestFoundInAllSmallLogs(t *testing.T) {
	some := []api.Item{user(1, 1), claim(1), loose(2, 1, 0), loose(2, 1, 2), loose(2, 2, 4), loose(2, 1, 3), loose(3, 1, 3)}
	allLogs(4, some, func(l []api.Item) {
		for region := 1; region <= 4; region++ {
			wantLatest(t, l, region)
			for size := -1; size <= 5; size++ {
				wantPlace(t, l, region, size)
			}
		}
	})
}
