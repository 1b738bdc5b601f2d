package disk_test

import (
	"math"
	"strings"
	"testing"

	"estreat/api"
	"estreat/disk"
)

// dots is what a small disk has, bytes 0 as dots.
func dots(t testing.TB, d *disk.Disk) string {
	t.Helper()
	b, e := d.Read(0, d.Room())
	if e != api.OK {
		t.Fatalf("P9.1: Read(0, %d) is %d", d.Room(), e)
	}
	return strings.ReplaceAll(string(b), "\x00", ".")
}

func TestExamples(t *testing.T) {
	d := made(t, 8)
	wants := func(want string) {
		t.Helper()
		if got := dots(t, d); got != want {
			t.Errorf("P9.4: the disk has %s; want %s", got, want)
		}
	}
	for _, c := range []call{write(0, "ab"), sync(), write(1, "xy"), write(4, "z")} {
		do(d, c)
	}
	wants("axy.z...")
	do(d, crash(1, 0))
	wants("axy.....")
	do(d, write(0, "pqr"))
	do(d, crash(0, 2))
	wants("pqy.....")
	do(d, write(0, "m"))
	do(d, crash(0, 9))
	wants("pqy.....")
	if a, b := d.Write(7, []byte("ab")), d.Write(-1, nil); a != api.ErrDiskEnd || b != api.ErrDiskEnd {
		t.Errorf("P9.2: Write(7, ab) is %d, Write(-1, none) %d", a, b)
	}
	wants("pqy.....")
}

// three are pending: they lie over one another, and over what was synced.
func three() []call {
	return []call{write(0, "ABCDEFGH"), sync(), write(1, "abcd"), write(3, "wxyz"), write(0, "mn")}
}

func TestCrashByWords(t *testing.T) {
	for _, x := range []struct {
		keep, torn int
		want       string
	}{
		{math.MinInt, 0, "ABCDEFGH"}, {-1, 0, "ABCDEFGH"}, {-1, 1, "AaCDEFGH"}, {math.MinInt, math.MaxInt, "AabcEFGH"},
		{0, math.MinInt, "ABCDEFGH"}, {0, -1, "ABCDEFGH"}, {0, 0, "ABCDEFGH"}, {0, 1, "AaCDEFGH"}, {0, 2, "AabDEFGH"}, {0, 3, "AabcEFGH"},
		{0, 4, "AabcEFGH"}, {0, 5, "AabcEFGH"}, {0, math.MaxInt, "AabcEFGH"},
		{1, -1, "AabcdFGH"}, {1, 0, "AabcdFGH"}, {1, 1, "AabwdFGH"}, {1, 2, "AabwxFGH"}, {1, 3, "AabwxyGH"}, {1, 4, "AabwxyGH"}, {1, 9, "AabwxyGH"},
		{2, -1, "AabwxyzH"}, {2, 0, "AabwxyzH"}, {2, 1, "mabwxyzH"}, {2, 2, "mabwxyzH"}, {2, 3, "mabwxyzH"},
		{3, -1, "mnbwxyzH"}, {3, 0, "mnbwxyzH"}, {3, 1, "mnbwxyzH"}, {3, math.MaxInt, "mnbwxyzH"},
		{4, 0, "mnbwxyzH"}, {4, 1, "mnbwxyzH"}, {math.MaxInt, 0, "mnbwxyzH"}, {math.MaxInt, math.MaxInt, "mnbwxyzH"}, {math.MaxInt, math.MinInt, "mnbwxyzH"},
	} {
		p := newPair(t, 8)
		p.does(t, three()...)
		if e := p.d.Crash(x.keep, x.torn); e != api.OK || dots(t, p.d) != x.want || p.d.Down() {
			t.Errorf("P9.4: Crash(%d, %d) is %d and leaves %s; want %s", x.keep, x.torn, e, dots(t, p.d), x.want)
		}
		if e := p.d.Crash(0, 0); e != api.OK || dots(t, p.d) != x.want {
			t.Errorf("P9.4: behind Crash(%d, %d) something is pending: %s", x.keep, x.torn, dots(t, p.d))
		}
	}
}

// keeps and torns are those that the chapter tells apart, for so many writes and bytes.
func keeps(pending int) []int {
	return []int{math.MinInt, -2, -1, 0, 1, pending - 1, pending, pending + 1, math.MaxInt - 1, math.MaxInt}
}

func torns(n int) []int {
	return []int{math.MinInt, -2, -1, 0, 1, n - 2, n - 1, n, n + 1, math.MaxInt - 1, math.MaxInt}
}

func TestCrashOfWritesThatMeet(t *testing.T) {
	for _, l := range meeting() {
		for synced := range len(l) + 1 {
			for _, keep := range keeps(len(l) - synced) {
				for _, torn := range torns(4) {
					x := newPair(t, 8)
					x.does(t, write(0, "ABCDEFGH"))
					x.does(t, l[:synced]...)
					x.does(t, sync())
					x.does(t, l[synced:]...)
					x.does(t, crash(keep, torn), crash(0, 0))
				}
			}
		}
	}
}

// A disk that was never synced goes back to bytes 0.
func TestCrashOfADiskThatWasNeverSynced(t *testing.T) {
	for _, l := range meeting() {
		for _, keep := range keeps(len(l)) {
			for _, torn := range torns(3) {
				x := newPair(t, 9)
				x.does(t, l...)
				x.does(t, crash(keep, torn))
			}
		}
	}
}

func TestCrashOfAWholeDisk(t *testing.T) {
	for _, room := range rooms {
		for _, keep := range keeps(2) {
			for _, torn := range torns(room) {
				x := newPair(t, room)
				x.does(t, write(0, fresh(1, room)), sync(), write(0, fresh(2, room)), write(0, fresh(3, room)), crash(keep, torn))
			}
		}
	}
}

// A write of no byte has nothing to lose, but it is one of those that keep counts.
func TestCrashOfWritesOfNoByte(t *testing.T) {
	for _, at := range []int{0, 1, 7, 8} {
		for _, keep := range keeps(5) {
			for _, torn := range torns(0) {
				x := newPair(t, 8)
				x.does(t, write(0, "abcdefgh"), sync(), write(at, ""), write(1, "xy"), write(at, ""), write(2, "mn"), write(at, ""), crash(keep, torn))
			}
		}
	}
	for _, x := range []struct {
		keep, torn int
		want       string
	}{{0, 9, "..."}, {1, 0, "..."}, {1, 1, "a.."}, {1, 2, "a.."}, {2, 0, "ab."}, {3, 1, "ab."}, {3, 2, "ab."}, {4, 0, "abc"}} {
		d := made(t, 3)
		for _, c := range []call{write(3, ""), write(0, "ab"), write(0, ""), write(2, "c"), crash(x.keep, x.torn)} {
			do(d, c)
		}
		if got := dots(t, d); got != x.want {
			t.Errorf("P9.4: Crash(%d, %d) leaves %s; want %s", x.keep, x.torn, got, x.want)
		}
	}
}

func TestAWriteOfOneByteIsDoneOrUndone(t *testing.T) {
	for _, room := range rooms {
		for _, at := range []int{0, room / 2, room - 1} {
			for _, torn := range torns(1) {
				for keep, want := range map[int]string{-1: "a", 0: "a", 1: "b", 2: "b"} {
					d := made(t, room)
					for _, c := range []call{write(at, "a"), sync(), write(at, "b"), crash(keep, torn)} {
						do(d, c)
					}
					if b, e := d.Read(at, 1); string(b) != want || e != api.OK {
						t.Errorf("P9.5: Crash(%d, %d) of a write of one byte leaves %q, %d; want %q", keep, torn, b, e, want)
					}
				}
			}
		}
	}
}

func TestCrashWithNothingPending(t *testing.T) {
	for _, keep := range keeps(0) {
		for _, torn := range torns(0) {
			x := newPair(t, 8)
			x.does(t, crash(keep, torn), crash(keep, torn))
			x.does(t, write(1, "abc"), sync(), crash(keep, torn), crash(keep, torn))
			x.does(t, write(2, "xyz"), crash(1, 0), crash(keep, torn))
			x.does(t, stop(0), crash(keep, torn), write(0, "m"), stop(1), sync(), crash(keep, torn), crash(keep, torn))
		}
	}
}

// Whatever was done of the pending writes is safe behind a crash, and none of the others comes back.
func TestCrashBehindACrash(t *testing.T) {
	for _, keep := range keeps(3) {
		for _, torn := range torns(4) {
			for _, again := range keeps(2) {
				x := newPair(t, 8)
				x.does(t, three()...)
				x.does(t, crash(keep, torn), write(2, "123"), write(7, "4"), crash(again, torn), sync(), crash(again, torn))
			}
		}
	}
}

// wholes counts the pending writes, each of places of its own, that are done, and tells whether another one is in part.
func wholes(whole string, n, each int) (done int, part bool, right bool) {
	for i := range n {
		switch s := whole[i*each : (i+1)*each]; {
		case s == strings.Repeat("+", each) && !part && done == i:
			done++
		case s == strings.Repeat("-", each):
		case !part && done == i && strings.TrimLeft(strings.TrimRight(s, "-"), "+") == "":
			part = true
		default:
			return done, part, false
		}
	}
	return done, part, true
}

// What is done is a beginning: so many writes, of the next one a beginning that is not all of it, and what was synced besides.
func TestWhatIsDoneIsABeginning(t *testing.T) {
	const n, each = 5, 3
	for keep := -1; keep <= n+1; keep++ {
		for torn := -1; torn <= each+1; torn++ {
			d := made(t, n*each+4)
			do(d, write(0, strings.Repeat("-", n*each)+"safe"))
			do(d, sync())
			for i := range n {
				do(d, write(i*each, strings.Repeat("+", each)))
			}
			do(d, crash(keep, torn))
			got := dots(t, d)
			done, part, right := wholes(got, n, each)
			if !right || done != min(max(keep, 0), n) || part != (done < n && torn > 0) || !strings.HasSuffix(got, "safe") {
				t.Errorf("P9.5: Crash(%d, %d) leaves %s", keep, torn, got)
			}
		}
	}
}

// What was synced and not written over is there, whatever lies around it and whatever a crash keeps.
func TestWhatWasSyncedIsThere(t *testing.T) {
	for _, keep := range keeps(4) {
		for _, torn := range torns(3) {
			for n := range 5 {
				d := made(t, 8)
				do(d, write(2, "safe"))
				do(d, sync())
				do(d, stop(n))
				for _, c := range []call{write(0, "ab"), write(6, "yz"), write(1, "c"), write(6, "")} {
					do(d, c)
				}
				do(d, crash(keep, torn))
				if b, e := d.Read(2, 4); string(b) != "safe" || e != api.OK {
					t.Errorf("P9.5: Stop(%d), Crash(%d, %d) leaves %q, %d of what was synced", n, keep, torn, b, e)
				}
			}
		}
	}
}
