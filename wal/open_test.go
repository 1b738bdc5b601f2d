package wal_test

import (
	"bytes"
	"math"
	"strings"
	"testing"

	"estreat/api"
	"estreat/disk"
	"estreat/wal"
)

func TestExamples(t *testing.T) {
	x := opened(t, 1000)
	x.does(t, commit("a", "b"), sync(), commit("c", "d"), crash(0, 0))
	x.wants(t, "a", "b")
	x.does(t, commit("c", "d"), crash(math.MaxInt, 0))
	x.wants(t, "a", "b", "c", "d")
	x.does(t, reset("x"), crash(0, 0))
	x.wants(t, "x")
	if e := x.w.Commit([]string{strings.Repeat("a", 4001)}); e != api.ErrLimit {
		t.Errorf("P10.2: Commit of a text of 4001 bytes is %d", e)
	}
	if w, l, e := wal.Open(x.d, 0, 63); w != nil || len(l) != 0 || e != api.ErrArg {
		t.Errorf("P10.1: Open(d, 0, 63) is %v, %q, %d", w, l, e)
	}
}

// parts are of disks of some room: from, room, the disk's.
func parts() [][3]int {
	return [][3]int{
		{0, 64, 64}, {0, 64, 1000}, {936, 64, 1000}, {1, 64, 65}, {1, 64, 66},
		{0, 65, 65}, {7, 65, 72}, {0, 79, 79}, {0, 80, 80}, {0, 81, 100}, {19, 81, 100},
		{0, 1000, 1000}, {0, 999, 1000}, {1, 999, 1000}, {999000, 1000, 1000000}, {0, 999999, 1000000}, {1, 999999, 1000000},
		{0, 1000000, 1000000}, {999936, 64, 1000000},
	}
}

func TestOpenOfParts(t *testing.T) {
	for _, p := range parts() {
		x := newPair(t, made(t, p[2]), p[0], p[1])
		x.does(t, open(), open(), commit(), sync(), open(), reset(), open())
		if p[1] >= 80 {
			x.does(t, reset(""), open(), reset(), crash(0, 0), open())
		}
		x.wants(t)
		if p[1] >= 999 {
			x.does(t, commit("a", ""), commit("bc"), open(), reset("x"), commit("y"), open(), crash(0, 0))
			x.wants(t, "x", "y")
		}
	}
}

// A wal writes into its own part alone.
func TestPlacesBesideThePart(t *testing.T) {
	for _, p := range parts() {
		d := made(t, p[2])
		before, behind := bytes.Repeat([]byte{0xab}, p[0]), bytes.Repeat([]byte{0xcd}, p[2]-p[0]-p[1])
		d.Write(0, before)
		d.Write(p[0]+p[1], behind)
		d.Sync()
		x := newPair(t, d, p[0], p[1])
		limit := p[1]/2 - 16
		for i := range 4 {
			x.does(t, open(), commit(), open(), reset(fits(limit)...), open(), crash(i, i), open(), reset(), commit(fits(limit-16)...), open())
		}
		a, _ := d.Read(0, p[0])
		b, _ := d.Read(p[0]+p[1], len(behind))
		if !bytes.Equal(a, before) || !bytes.Equal(b, behind) {
			t.Errorf("P10.5: the wal of %v writes beside its part", p)
		}
	}
}

// fits is a batch of the greatest cost up to a limit, of bytes that are not 0.
func fits(limit int) []string {
	if limit < 24 {
		return nil
	}
	return costing(limit, "\xff")
}

func TestOpenOfNoPart(t *testing.T) {
	d := made(t, 1000)
	wrong := [][2]int{
		{0, 63}, {0, 0}, {0, -1}, {0, 1001}, {0, 1000000}, {0, 1000001}, {1, 1000}, {-1, 64}, {-1, 1000}, {-64, 64}, {937, 64}, {936, 65}, {1000, 64}, {1001, 64},
		{math.MaxInt, 64}, {math.MaxInt - 63, 64}, {math.MaxInt - 64, 64}, {math.MaxInt, math.MaxInt}, {1, math.MaxInt}, {0, math.MaxInt}, {64, math.MaxInt - 63},
		{math.MinInt, 64}, {0, math.MinInt}, {math.MinInt, math.MinInt}, {math.MinInt, math.MaxInt}, {math.MaxInt, math.MinInt}, {math.MaxInt - 999999, 1000000},
	}
	for _, down := range []bool{false, true} {
		for _, p := range wrong {
			if w, l, e := wal.Open(d, p[0], p[1]); w != nil || len(l) != 0 || e != api.ErrArg {
				t.Errorf("P10.1: Open(d, %d, %d) of 1000 places is %v, %q, %d; want ErrArg", p[0], p[1], w, l, e)
			}
		}
		if b, _ := d.Read(0, 1000); !bytes.Equal(b, make([]byte, 1000)) {
			t.Error("P10.1: an Open that is refused writes")
		}
		if !down {
			d.Stop(0)
		}
	}
	whole := made(t, 1000000)
	for _, p := range [][2]int{{0, 1000001}, {1, 1000000}, {999937, 64}} {
		if _, _, e := wal.Open(whole, p[0], p[1]); e != api.ErrArg {
			t.Errorf("P10.1: Open(d, %d, %d) of 1000000 places is %d; want ErrArg", p[0], p[1], e)
		}
	}
	if _, _, e := wal.Open(new(disk.Disk), 0, 64); e != api.ErrArg {
		t.Errorf("P10.1: Open of a disk of no place is %d; want ErrArg", e)
	}
}

// spoilt must be refused, also of a disk that has stopped: it is told first. Nothing is written, nothing becomes safe.
func spoilt(t *testing.T, d *disk.Disk, from, room int) {
	t.Helper()
	all, _ := d.Read(0, d.Room())
	for range 2 {
		if w, l, e := wal.Open(d, from, room); w != nil || len(l) != 0 || e != api.ErrWalSpoilt {
			t.Fatalf("P10.1: Open(d, %d, %d) is %v, %s, %d; want ErrWalSpoilt", from, room, w, brief(l), e)
		}
		d.Stop(0)
	}
	if b, _ := d.Read(0, d.Room()); !bytes.Equal(b, all) {
		t.Fatalf("P10.1: an Open that is refused writes")
	}
}

func TestOpenOfBytesThatAreNotZero(t *testing.T) {
	for _, room := range []int{64, 65, 100} {
		for at := range room {
			for _, x := range []byte{1, 2, 3, 7, 127, 128, 255} {
				d := made(t, room+20)
				d.Write(10+at, []byte{x})
				spoilt(t, d, 10, room)
				d.Crash(0, 0)
				if _, l, e := wal.Open(d, 10, room); len(l) != 0 || e != api.OK {
					t.Fatalf("P10.1: behind a crash that undid byte %d at %d: %q, %d", x, at, l, e)
				}
			}
		}
	}
	for _, s := range []string{"no wal", "\x01", "\x01\x01", "\x02estreat", "\x00no wal", "\x00estreat no", "\xff\xff\xff\xff"} {
		d := made(t, 1000)
		d.Write(0, []byte(s))
		spoilt(t, d, 0, 1000)
		d = made(t, 1000)
		d.Write(0, []byte(text(s, 1000)))
		spoilt(t, d, 0, 1000)
	}
}

// What lies there is another part's wal.
func TestOpenOfAnotherPart(t *testing.T) {
	for _, l := range [][]call{{}, {commit("a")}, {reset("a")}, {reset("a"), reset("b")}} {
		x := newPair(t, made(t, 1100), 10, 1000)
		x.does(t, open())
		x.does(t, l...)
		x.does(t, sync())
		whole, _ := x.d.Read(10, 1000)
		for _, p := range [][2]int{{10, 64}, {10, 100}, {10, 999}, {10, 1001}, {10, 1090}, {9, 1000}, {11, 1000}, {9, 1001}, {0, 1100}, {0, 64}, {12, 64}} {
			spoilt(t, x.d, p[0], p[1])
			x.d.Crash(0, 0)
		}
		x.does(t, open())
		moved := made(t, 1100)
		moved.Write(20, whole)
		spoilt(t, moved, 20, 1000)
		moved = made(t, 1100)
		moved.Write(10, whole)
		if _, _, e := wal.Open(moved, 10, 1000); e != api.OK {
			t.Errorf("P10.1: a wal's bytes in the same part of another disk: %d", e)
		}
	}
}

// Parts that differ in the last digit of a great number are apart, too.
func TestOpenOfAnotherGreatPart(t *testing.T) {
	for _, p := range [][3]int{{100000, 899999, 900000}, {100000, 900000, 899999}, {100000, 100000, 100009}, {900000, 99999, 99998}, {0, 1000000, 100000}, {0, 999999, 1000000}} {
		x := newPair(t, made(t, 1000000), p[0], p[1])
		x.does(t, open(), commit("a"), sync())
		spoilt(t, x.d, p[0], p[2])
		x.does(t, crash(0, 0), open())
	}
}

// Whatever one byte of a wal becomes, Open ends: the part is spoilt, or the byte was none that tells.
func TestOpenOfAWalWithAByteChanged(t *testing.T) {
	t.Parallel()
	for _, l := range [][]call{{}, {commit("a", ""), commit("bcd")}, {reset("a", "\x01\x01"), commit()}, {reset("a"), reset("b"), commit("c")}} {
		x := newPair(t, made(t, 150), 3, 140)
		x.does(t, open())
		x.does(t, l...)
		x.does(t, sync())
		for at := 3; at < 143; at++ {
			for n := range 256 {
				x.d.Write(at, []byte{byte(n)})
				if w, l, e := wal.Open(x.d, 3, 140); e != api.OK && (e != api.ErrWalSpoilt || w != nil || len(l) != 0) || e == api.OK && w.Len() != len(l) {
					t.Fatalf("P10.1: byte %d at %d: Open is %s, %d", n, at, brief(l), e)
				} else if e == api.OK {
					w.Commit([]string{"q"})
					w.Reset(nil)
				}
				x = newPair(t, made(t, 150), 3, 140)
				x.does(t, open())
				x.does(t, l...)
				x.does(t, sync())
			}
		}
	}
}

// The first mark of what is laid becomes one that no wal makes; so do numbers of texts and of bytes.
func TestOpenOfBatchesThatAreNone(t *testing.T) {
	x := opened(t, 1000)
	x.does(t, commit("q-text-q"), sync())
	all, _ := x.d.Read(0, 1000)
	at := bytes.Index(all, []byte("q-text-q"))
	if at < 24 {
		t.Fatalf("P10.2: a text lies nowhere: %d", at)
	}
	begins := at - 24 // the batch costs 32, and lies in as many places
	for place, values := range map[int][]byte{0: {2, 3, 128, 255}, 1: {1, 255}, 14: {4, 255}, 15: {2, 3, 255}, 16: {1, 255}, 22: {16, 255}, 23: {255}} {
		for _, v := range values {
			d := made(t, 1000)
			d.Write(0, all)
			d.Write(begins+place, []byte{v})
			if place == 15 || place == 23 {
				// what the numbers reach into then is no text and no mark
				d.Write(begins+32, bytes.Repeat([]byte{0xff}, 400))
			}
			spoilt(t, d, 0, 1000)
		}
	}
}

func TestOpenAgainWithoutACrash(t *testing.T) {
	x := opened(t, 1000)
	for _, c := range [][]call{{}, {commit("a")}, {commit()}, {commit("", "")}, {sync()}, {reset("x", "y")}, {commit("z"), commit("\x00")}, {reset()}, {commit("m")}} {
		x.does(t, c...)
		x.does(t, open(), open(), open())
	}
	x.wants(t, "m")
}

// What Open tells is safe then.
func TestWhatIsOpenedIsSafe(t *testing.T) {
	x := opened(t, 1000)
	x.does(t, crash(0, 0))
	x.wants(t)
	x.does(t, commit("a"), open(), crash(0, 0))
	x.wants(t, "a")
	x.does(t, commit("b"), crash(2, 0), open(), crash(0, 0))
	x.wants(t, "a", "b")
	x.does(t, commit("c"), stop(0), open(), crash(2, 0), open(), crash(0, 0))
	x.wants(t, "a", "b", "c")
}

func TestOpenOfADiskThatHasStopped(t *testing.T) {
	for _, l := range [][]call{{}, {open()}, {open(), commit("a")}, {open(), commit("a"), sync()}, {open(), reset("a")}} {
		x := newPair(t, made(t, 1000), 0, 1000)
		x.does(t, l...)
		x.does(t, stop(0))
		for range 2 {
			if w, r, e := wal.Open(x.d, 0, 1000); w != nil || len(r) != 0 || e != api.ErrDiskDown {
				t.Errorf("P10.1: Open of a disk that has stopped is %v, %q, %d", w, r, e)
			}
		}
		x.does(t, open(), crash(9, 9), open())
	}
}
