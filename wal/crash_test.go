package wal_test

import (
	"math"
	"testing"

	"estreat/api"
	"estreat/wal"
)

// mark is a text that looks like many marks, and like batches of its own: what remains of it must not be taken for one.
func mark(n int) string { return text("\x01"+text("\x00", 15), n) }

// scripts begin with an Open, and have all calls in many orders; their texts fit into a part of 220 places.
func scripts() [][]call {
	return [][]call{
		{open()},
		{open(), open()},
		{open(), commit("a", "b")},
		{open(), commit("a"), commit("b"), commit("c")},
		{open(), commit("a"), sync(), commit("bc", ""), sync()},
		{open(), commit(mark(20)), commit("\x01"), open(), commit("b")},
		{open(), reset("x")},
		{open(), commit("a"), reset("x", "y"), commit("b"), sync()},
		{open(), commit("a", "b"), sync(), commit("c"), reset(), commit("d"), commit()},
		{open(), reset("x"), reset("y"), commit("a"), reset(mark(30)), open()},
		{open(), commit(), commit(""), commit("", ""), sync(), reset(""), commit()},
		{open(), sync(), sync(), commit("a"), open(), sync(), commit("\xff\x00"), commit("e"), reset("f")},
	}
}

// keeps are more than any of the scripts has pending.
var keeps = []int{math.MinInt, -1, 0, 1, 2, 3, 4, 5, 6, 7, 8, 9, 10, math.MaxInt}

func torns() []int {
	l := []int{math.MinInt, -1, math.MaxInt}
	for n := range 60 {
		l = append(l, n)
	}
	return l
}

// goesOn holds a wal behind a crash against what it may be, and then uses it.
func goesOn(t *testing.T, x *pair) {
	t.Helper()
	x.does(t, open(), commit("p"), open(), commit(""), commit("q"), crash(2, 1), open(), commit("r"), sync(), crash(0, 0), open(), reset("s"), commit("t"), crash(0, 9), open())
	x.wants(t, "s")
}

// Within each call the disk stops, behind each number of writes and syncs, and crashes with each keep and torn.
func TestStopsWithinEachCall(t *testing.T) {
	t.Parallel()
	for _, script := range scripts() {
		for n := 0; ; n++ {
			down := false
			for _, keep := range keeps {
				for _, torn := range torns() {
					x := newPair(t, made(t, 230), 3, 220)
					x.does(t, stop(n))
					x.does(t, script...)
					down = x.d.Down()
					x.does(t, crash(keep, torn))
					goesOn(t, x)
				}
			}
			if !down {
				break
			}
		}
	}
}

// Crashes without a stop, behind each call.
func TestCrashesBehindEachCall(t *testing.T) {
	t.Parallel()
	for _, script := range scripts() {
		for n := range len(script) + 1 {
			for _, keep := range keeps {
				for _, torn := range torns() {
					x := newPair(t, made(t, 220), 0, 220)
					x.does(t, script[:n]...)
					x.does(t, crash(keep, torn))
					x.does(t, open())
					x.does(t, script[n:]...)
					x.does(t, crash(torn, keep))
					goesOn(t, x)
				}
			}
		}
	}
}

// A second crash comes within the Open behind the first, and a third one.
func TestCrashesWithinTheOpenBehindACrash(t *testing.T) {
	t.Parallel()
	for _, script := range scripts() {
		for n := range 14 {
			for _, keep := range []int{0, 1, 2, 3, 4, 9} {
				for _, torn := range []int{0, 1, 2, 13, 16, 17, 28, 99} {
					for m := range 4 {
						for keep2 := range 3 {
							x := newPair(t, made(t, 220), 0, 220)
							x.does(t, stop(n))
							x.does(t, script...)
							x.does(t, crash(keep, torn), stop(m), open(), crash(keep2, torn), stop(m/2), open(), open(), crash(torn, keep2))
							goesOn(t, x)
						}
					}
				}
			}
		}
	}
}

// The first Open of all is torn at each of its bytes, and comes again.
func TestCrashesWithinTheFirstOpen(t *testing.T) {
	for _, p := range parts() {
		if p[2] > 10000 {
			continue
		}
		for n := range 5 {
			for keep := range 4 {
				for torn := range 40 {
					x := newPair(t, made(t, p[2]), p[0], p[1])
					x.does(t, stop(n), open(), crash(keep, torn), open(), open())
					x.wants(t)
					x.does(t, commit(), crash(0, 5), open(), reset(), crash(0, 5))
					x.wants(t)
				}
			}
		}
	}
}

// Crash behind crash, in one part: what earlier ones left must never come back.
func TestRemainsDoNotComeBack(t *testing.T) {
	for size := range 70 {
		for _, fill := range []string{"\x01", "\x01\x00", "\x00\x01", mark(16), "\x02", "\xff"} {
			for keep := range 3 {
				for _, next := range [][]string{nil, {""}, {"n"}, {"nn", ""}, {mark(17)}, {text(fill, size/2)}} {
					x := opened(t, 300)
					x.does(t, commit("a"), sync(), commit(text(fill, size)), crash(keep, size), open())
					x.does(t, commit(next...), open(), commit(text(fill, size)), crash(keep, size+10), open(), commit(next...), open())
					x.does(t, reset(text(fill, size)), reset("a"), commit(next...), open(), commit("z"), crash(1, 0), open())
				}
			}
		}
	}
}

// What lasts, call by call: the words of P10.4 leave a choice to the wal only where they say perhaps.
func TestWhatIsSafeLasts(t *testing.T) {
	for _, torn := range []int{0, 1, 9, 99} {
		x := opened(t, 1000)
		x.does(t, commit("a"), commit("b"), sync(), commit("c"), crash(0, torn))
		x.wants(t, "a", "b")
		x.does(t, reset("x", "y"), crash(0, torn))
		x.wants(t, "x", "y")
		x.does(t, commit("z"), reset(), crash(0, torn))
		x.wants(t)
		x.does(t, commit("z"), sync(), sync(), stop(0), sync(), reset("q"), crash(0, torn))
		x.wants(t, "z")
		x.does(t, commit("k"), commit("l"), crash(math.MaxInt, torn))
		x.wants(t, "z", "k", "l")
		x.does(t, stop(0), commit("m"), commit("n"), crash(math.MaxInt, torn))
		x.wants(t, "z", "k", "l")
	}
}

// Of what was not synced, each first ones may be there, and are, by how much the crash keeps.
func TestSomeFirstOnesOfTheCalls(t *testing.T) {
	seen := map[int]bool{}
	for keep := range 9 {
		x := opened(t, 1000)
		x.does(t, commit("a"), commit("b", "c"), commit("d"), crash(keep, 7), open())
		seen[x.w.Len()] = true
	}
	if len(seen) != 4 || !seen[0] || !seen[1] || !seen[3] || !seen[4] {
		t.Errorf("P10.4: of batches of 1, 2 and 1 texts crashes leave these numbers: %v", seen)
	}
}

// A Reset that the disk stops in is there as a whole, or what was ahead of it is.
func TestResetIsThereOrNot(t *testing.T) {
	seen := map[string]bool{}
	for n := range 6 {
		for keep := range 6 {
			x := opened(t, 1000)
			x.does(t, commit("a"), sync(), commit("b"), stop(n))
			e := x.w.Reset([]string{"x", "y", "z"})
			want := 2
			if e == api.OK {
				want = 3
			}
			if x.w.Len() != want || e != api.OK && e != api.ErrDiskDown {
				t.Fatalf("P10.3: a Reset within which the disk may stop is %d, Len %d", e, x.w.Len())
			}
			x.d.Crash(keep, 3)
			_, l, o := wal.Open(x.d, 0, 1000)
			told := brief(l)
			seen[told] = true
			if o != api.OK || e == api.OK && told != brief([]string{"x", "y", "z"}) {
				t.Fatalf("P10.4: behind a Reset that was %d, Open tells %s, %d", e, told, o)
			}
		}
	}
	for _, l := range [][]string{{"a"}, {"a", "b"}, {"x", "y", "z"}} {
		delete(seen, brief(l))
	}
	if len(seen) != 0 {
		t.Errorf("P10.4: a Reset that the disk stopped in leaves %v", seen)
	}
}

// A batch at a half's very end: its bytes, its mark and the mark of the next have no place to spare.
func TestCrashesOfAFullWal(t *testing.T) {
	for _, room := range []int{64, 65, 80, 81, 120, 121} {
		limit := room/2 - 16
		for n := range 8 {
			for keep := range 6 {
				for torn := range limit + 3 {
					x := opened(t, room)
					x.does(t, reset(), commit(fits(limit-16)...), sync(), stop(n), reset(fits(limit)...), commit(), crash(keep, torn), open())
					x.does(t, reset(fits(limit)...), open(), stop(n), reset(), commit(fits(limit-16)...), crash(keep, torn), open(), commit(), open())
				}
			}
		}
	}
}
