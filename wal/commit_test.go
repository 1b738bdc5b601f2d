package wal_test

import (
	"slices"
	"strconv"
	"strings"
	"testing"

	"estreat/api"
)

func numbered(n int) []string {
	var l []string
	for i := range n {
		l = append(l, strconv.Itoa(i))
	}
	return l
}

func TestBatches(t *testing.T) {
	all := ""
	for i := range 256 {
		all += string([]byte{byte(i)})
	}
	batches := [][]string{
		nil, {}, {""}, {"", ""}, {"a"}, {"", "a", ""}, slices.Repeat([]string{""}, 1000), numbered(1000), slices.Repeat([]string{"z"}, 999),
		{text("a", 4000)}, {text("b", 3999), text("c", 4000), ""}, {all, text(all, 4000)}, {"\x00"}, {"\x00\x00", "\xff", "\x80\x81"}, {text("\x00", 4000)}, {text("\xff", 4000)}, {text("\x01", 300)}, {text("\x02", 300)},
		{"é", "\xc3", "日本"}, slices.Repeat([]string{text("q", 4000)}, 100),
	}
	for _, room := range []int{999999, 1000000} {
		x := opened(t, room)
		var want []string
		for i, l := range batches {
			x.does(t, commit(l...))
			want = append(want, l...)
			if i%3 == 0 {
				x.wants(t, want...)
			}
		}
		x.does(t, sync(), crash(0, 0))
		x.wants(t, want...)
		for _, l := range batches {
			x.does(t, reset(l...), crash(0, 0))
			x.wants(t, l...)
			x.does(t, commit("behind"), open())
		}
	}
}

func TestNoBatches(t *testing.T) {
	long := text("a", 4001)
	for _, l := range [][]string{{long}, {"", long}, {long, ""}, {long, long}, {text("a", 5000)}, {strings.Repeat("a", 1000000)}, slices.Repeat([]string{""}, 1001), numbered(1001), slices.Repeat([]string{long}, 1001), slices.Repeat([]string{""}, 100000)} {
		for _, room := range []int{64, 1000, 1000000} {
			x := opened(t, room)
			x.does(t, commit(), sync())
			for _, down := range []bool{false, true} {
				if down {
					x.does(t, stop(0))
				}
				if a, b := x.w.Commit(l), x.w.Reset(l); a != api.ErrLimit || b != api.ErrLimit || x.w.Len() != 0 {
					t.Errorf("P10.2: Commit of no batch is %d, Reset %d, Len %d, Down %t; want ErrLimit", a, b, x.w.Len(), down)
				}
			}
			x.does(t, crash(9, 9))
			x.wants(t)
		}
	}
}

var rooms = []int{64, 65, 66, 79, 80, 81, 82, 83, 95, 96, 97, 98, 99, 100, 101, 127, 128, 129, 500, 1000, 1001, 8000, 8080, 8081, 20000, 999998, 999999, 1000000}

// One batch of just the limit, of less, and of more.
func TestCostsOfOneBatch(t *testing.T) {
	for _, room := range rooms {
		limit := room/2 - 16
		for cost := max(24, limit-2); cost <= limit+3; cost++ {
			l := costing(cost, "k")
			if costs(l) != cost {
				t.Fatalf("a batch that should cost %d costs %d", cost, costs(l))
			}
			want := api.OK
			if cost > limit {
				want = api.ErrWalFull
			}
			for _, kind := range []byte{'c', 'r'} {
				x := opened(t, room)
				c := call{kind: kind, l: l}
				e := x.w.Commit(l)
				if kind == 'r' {
					x = opened(t, room)
					e = x.w.Reset(l)
				}
				if e != want || want == api.OK && x.w.Len() != len(l) || want != api.OK && x.w.Len() != 0 {
					t.Errorf("P10.2: %v in a room of %d, at costs of %d: %d, Len %d; want %d", c, room, cost, e, x.w.Len(), want)
				}
				x = opened(t, room)
				x.does(t, c, open(), commit(), open(), c, crash(9, 0), open(), reset(), c, open())
			}
		}
		x := opened(t, room)
		x.does(t, commit(), open())
		if e := x.w.Commit(nil); (e == api.OK) != (limit >= 32) {
			t.Errorf("P10.2: a second batch of no text in a room of %d is %d", room, e)
		}
	}
}

// Costs are added up over many batches, over Opens and crashes, and begin anew with a Reset.
func TestCostsOfManyBatches(t *testing.T) {
	for _, room := range rooms {
		limit := room/2 - 16
		for _, l := range [][]string{nil, {""}, {"ab"}, {"", "abc", ""}, fits(limit / 3), fits(limit / 2)} {
			each := costs(l)
			if limit/each > 3000 {
				continue
			}
			for _, first := range []int{0, 16, 27, each} {
				x, used, begun := opened(t, room), 0, 0
				if first > limit {
					continue
				}
				if first > 0 {
					head := costing(first, "h")
					x.does(t, reset(head...))
					used, begun = first, len(head)
				}
				fits := (limit - used) / each
				for n := range fits + 3 {
					want, most := api.OK, min(n+1, fits)
					if n >= fits {
						want = api.ErrWalFull
					}
					if e := x.w.Commit(l); e != want || x.w.Len() != begun+most*len(l) {
						t.Fatalf("P10.2: Commit %d of cost %d, behind %d in a room of %d: %d, Len %d; want %d", n+1, each, used, room, e, x.w.Len(), want)
					}
					if n < 5 || n >= fits-2 {
						x.since = []state{{slices.Concat(x.now().records[:begun], slices.Repeat(l, most)), used + most*each}}
						x.does(t, open())
					}
				}
				x.does(t, commit(l...), crash(0, 0), open(), commit(l...), reset(l...), open())
			}
		}
	}
}

func TestAFullWalGoesOnBehindAReset(t *testing.T) {
	for _, room := range []int{64, 80, 81, 300, 1001} {
		x := opened(t, room)
		for i := range 60 {
			for e := api.OK; e == api.OK; {
				c := commit(fits(min(16+i, room/2-16))...)
				e = x.w.Commit(c.l)
				if !x.refused(t, c, x.now().cost, e) {
					x.ends(t, c, e, false)
				}
			}
			x.does(t, commit("a full wal"), open(), reset(fits(min(16+2*i, room/2-16))...))
			if i%4 == 0 {
				x.does(t, open())
			}
		}
	}
}

// Resets may come for ever: none of them leaves less room.
func TestResetsForEver(t *testing.T) {
	for _, room := range []int{64, 65, 80, 128, 1000} {
		limit := room/2 - 16
		x := opened(t, room)
		for i := range 3000 {
			l := fits(limit - i%5)
			if e := x.w.Reset(l); e != api.OK || x.w.Len() != len(l) {
				t.Fatalf("P10.3: Reset %d in a room of %d is %d, Len %d", i, room, e, x.w.Len())
			}
			if i%50 == 0 {
				x.since = []state{{l, costs(l)}}
				x.does(t, crash(0, 0), open())
			}
		}
	}
}

// What is refused changes nothing, in the wal and on the disk.
func TestRefusalsChangeNothing(t *testing.T) {
	for _, begins := range [][]call{{}, {commit("a")}, {reset("a", "b")}, {reset("a"), commit(), commit("b")}} {
		x := opened(t, 200)
		x.does(t, begins...)
		all, _ := x.d.Read(0, 200)
		for _, l := range [][]string{{text("a", 100)}, {text("a", 4001)}, slices.Repeat([]string{""}, 11), slices.Repeat([]string{""}, 1001)} {
			x.does(t, commit(l...), reset(l...))
			if b, _ := x.d.Read(0, 200); string(b) != string(all) {
				t.Errorf("P10.2: what is refused is written: %s", brief(l))
			}
		}
		x.does(t, open())
	}
}

func TestCallsOfADiskThatHasStopped(t *testing.T) {
	for _, begins := range [][]call{{}, {commit("a")}, {commit("a"), sync()}, {reset("a", "b")}, {reset("a"), commit("b")}} {
		x := opened(t, 1000)
		x.does(t, begins...)
		x.does(t, stop(0))
		for range 2 {
			if a, b, c, d := x.w.Commit([]string{"q"}), x.w.Commit(nil), x.w.Sync(), x.w.Reset([]string{"r"}); a != api.ErrDiskDown || b != a || c != a || d != a {
				t.Errorf("P10.2: of a disk that has stopped Commit is %d, of no text %d, Sync %d, Reset %d", a, b, c, d)
			}
			if a, b := x.w.Commit([]string{text("q", 900)}), x.w.Reset([]string{text("q", 900)}); a != api.ErrWalFull || b != a {
				t.Errorf("P10.2: ErrWalFull is told ahead of the disk's error: Commit %d, Reset %d", a, b)
			}
		}
		x.does(t, commit("q"), sync(), reset("r"), commit("s"), crash(9, 9), open())
	}
}
