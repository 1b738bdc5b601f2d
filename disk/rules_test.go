package disk_test

import (
	"bytes"
	"math"
	"slices"
	gosync "sync"
	"testing"

	"estreat/api"
	"estreat/disk"
)

var farOff = []int{math.MinInt, math.MinInt + 1, math.MinInt32 - 1, -1000001, -1, 0, 1, 7, 8, 9, 1000000, 1000001, math.MaxInt32 + 1, math.MaxInt - 8, math.MaxInt - 1, math.MaxInt}

// begun are beginnings: with and without pending writes, synced, stopping, stopped, and crashed.
func begun() [][]call {
	return [][]call{
		{},
		{write(0, "abcdefgh")},
		{write(0, "abc"), sync()},
		{write(0, "abc"), sync(), write(1, "xyz"), write(8, "")},
		{stop(0)},
		{write(0, "abc"), stop(1)},
		{stop(2), write(0, "abc"), write(1, "xyz")},
		{write(0, "abc"), write(1, "xyz"), crash(0, 2)},
	}
}

func TestCallsEndAtAllArguments(t *testing.T) {
	for _, l := range begun() {
		for _, m := range farOff {
			for _, n := range farOff {
				x := newPair(t, 8)
				x.does(t, l...)
				b, e := x.d.Read(m, n)
				if want := x.p.has(m, n); (e == api.OK) != want || !want && (len(b) != 0 || e != api.ErrDiskEnd) {
					t.Errorf("R1: Read(%d, %d) is %q, %d", m, n, b, e)
				}
				x.does(t, write(m, ""), write(m, "a"), write(m, "12345678"), write(m, "123456789"), stop(m), write(n, "b"), crash(m, n))
			}
		}
	}
	for _, n := range farOff {
		d, e := disk.New(n)
		if (d != nil) != (n >= 1 && n <= 1000000) || (e == api.OK) != (d != nil) || d == nil && e != api.ErrArg {
			t.Errorf("R1: New(%d) is %v, %d", n, d, e)
		}
	}
}

// What is wrong changes nothing, and is not remembered.
func TestErrorsChangeNothing(t *testing.T) {
	for _, l := range begun() {
		x, y := newPair(t, 8), newPair(t, 8)
		x.does(t, l...)
		y.does(t, l...)
		for _, n := range []int{-1, 9, 1000001, math.MaxInt, math.MinInt} {
			x.d.Read(n, 1)
			x.d.Read(1, n)
			x.does(t, write(n, "q"), write(n, ""), write(1, "12345678"))
			if n < 0 || n > 1000000 {
				x.does(t, stop(n))
			}
		}
		for _, c := range []call{write(2, "mn"), sync(), write(3, "op"), crash(1, 1)} {
			x.does(t, c)
			y.does(t, c)
			if dots(t, x.d) != dots(t, y.d) || x.d.Down() != y.d.Down() {
				t.Errorf("R1: behind %v a disk with errors has %s, one without %s", l, dots(t, x.d), dots(t, y.d))
			}
		}
	}
}

func TestNoDisk(t *testing.T) {
	var d *disk.Disk
	for range 2 {
		if d.Room() != 0 || d.Down() {
			t.Errorf("R3: no disk has Room %d, Down %t", d.Room(), d.Down())
		}
		if e := d.Sync(); e != api.ErrNil {
			t.Errorf("R3: Sync of no disk is %d", e)
		}
		for _, m := range farOff {
			if a, b, c := d.Write(m, nil), d.Write(m, []byte("a")), d.Stop(m); a != api.ErrNil || b != api.ErrNil || c != api.ErrNil {
				t.Errorf("R3: of no disk Write(%d, ..) is %d, %d, Stop(%d) %d", m, a, b, m, c)
			}
			for _, n := range farOff {
				if b, e := d.Read(m, n); len(b) != 0 || e != api.ErrNil {
					t.Errorf("R3: Read(%d, %d) of no disk is %q, %d", m, n, b, e)
				}
				if e := d.Crash(m, n); e != api.ErrNil {
					t.Errorf("R3: Crash(%d, %d) of no disk is %d", m, n, e)
				}
			}
		}
	}
}

// A disk that New has not made has no place; its calls end all the same.
func TestADiskOfNoPlace(t *testing.T) {
	for _, l := range begun() {
		x := &pair{d: new(disk.Disk), p: newPlayed(0)}
		x.does(t, l...)
		x.does(t, write(0, ""), sync(), write(0, ""), crash(0, 9), stop(1), write(0, ""), write(0, ""))
	}
}

func spoil(b []byte) {
	for i := range b {
		b[i] = 0xdd
	}
}

func TestWhatIsHandedInStaysAndIsNotKept(t *testing.T) {
	for _, n := range []int{0, 1, 3, 8} {
		for keep := range 4 {
			for torn := range 9 {
				x := newPair(t, 8)
				x.does(t, write(0, "ABCDEFGH"), sync())
				for turn := range 3 {
					data := fresh(turn, n)
					room := append([]byte(data), bytes.Repeat([]byte{0xee}, 20)...)
					if e := x.d.Write(0, room[:n]); e != api.OK || string(room[:n]) != data || !bytes.Equal(room[n:], bytes.Repeat([]byte{0xee}, 20)) {
						t.Fatalf("R2: Write is %d, and what was handed in is changed, or the room behind it: % x", e, room)
					}
					spoil(room)
					x.p.write(0, data)
					x.isSame(t, "R2")
					if !bytes.Equal(room, bytes.Repeat([]byte{0xdd}, len(room))) {
						t.Fatalf("R2: what was handed in is changed: % x", room)
					}
				}
				x.does(t, crash(keep, torn))
			}
		}
	}
}

// What was handed in is not changed by what comes later either.
func TestLaterCallsLeaveWhatWasHandedIn(t *testing.T) {
	d, b := made(t, 8), []byte("abcd")
	d.Write(0, b)
	for _, c := range []call{write(0, "xy"), write(2, "zzzz"), crash(1, 0), write(0, "mnop"), crash(0, 2), stop(0), crash(0, 0)} {
		do(d, c)
		if string(b) != "abcd" {
			t.Fatalf("R2: %v changes what was handed in: %q", c, b)
		}
	}
}

// What Read hands out is written over, with the room behind it: no disk and no other answer knows.
func TestWhatIsReadIsNew(t *testing.T) {
	for _, l := range begun() {
		for _, s := range [][2]int{{0, 0}, {0, 1}, {0, 8}, {3, 2}, {7, 1}, {8, 0}} {
			x := newPair(t, 8)
			x.does(t, l...)
			want := slices.Clone(x.p.bytes()[s[0] : s[0]+s[1]])
			one, _ := x.d.Read(s[0], s[1])
			two, _ := x.d.Read(s[0], s[1])
			spoil(one[:cap(one)])
			if !bytes.Equal(two, want) {
				t.Errorf("R2: two answers of Read(%d, %d) share their memory: %q", s[0], s[1], two)
			}
			x.isSame(t, "R2")
			x.does(t, write(0, "12345678"), crash(0, 3), write(1, "mn"), crash(1, 0))
			if !bytes.Equal(two, want) {
				t.Errorf("R2: what came out of Read(%d, %d) is changed by later calls: %q", s[0], s[1], two)
			}
			spoil(two[:cap(two)])
			x.isSame(t, "R2")
		}
	}
}

// What is pending keeps its own copy of what it wrote over: it is not what Read handed out.
func TestWhatIsReadIsNotWhatACrashCopiesBack(t *testing.T) {
	x := newPair(t, 8)
	x.does(t, write(0, "abcdefgh"), sync())
	b, _ := x.d.Read(0, 8)
	x.does(t, write(2, "xyz"))
	c, _ := x.d.Read(0, 8)
	spoil(b)
	spoil(c)
	x.does(t, crash(0, 1))
}

// What was read of one disk may be written to another, or to the same.
func TestWhatIsReadIsWritten(t *testing.T) {
	x := newPair(t, 8)
	x.does(t, write(0, "abcd"))
	b, _ := x.d.Read(0, 4)
	if e := x.d.Write(2, b); e != api.OK || string(b) != "abcd" {
		t.Errorf("R2: Write of what was read is %d, and makes %q of it", e, b)
	}
	x.p.write(2, "abcd")
	x.isSame(t, "R2")
	x.does(t, crash(1, 2))
}

func TestDisksKnowNothingOfOneAnother(t *testing.T) {
	for _, l := range begun() {
		for _, m := range begun() {
			x, y := newPair(t, 8), newPair(t, 8)
			for i := range max(len(l), len(m)) {
				if i < len(l) {
					x.does(t, l[i])
					y.isSame(t, "R3")
				}
				if i < len(m) {
					y.does(t, m[i])
					x.isSame(t, "R3")
				}
			}
			for _, c := range []call{write(4, "q"), crash(1, 1), stop(1), sync(), write(0, "r"), crash(0, 0)} {
				x.does(t, c)
				y.isSame(t, "R3")
				y.does(t, c)
				x.isSame(t, "R3")
			}
		}
	}
}

func TestDisksAtOnce(t *testing.T) {
	var all gosync.WaitGroup
	for turn := range 8 {
		d := made(t, 8)
		all.Go(func() {
			for i := range 300 {
				do(d, write(0, fresh(turn, 8)))
				do(d, write(i%7, fresh(i, 2)))
				do(d, crash(1, 0))
				if b, e := d.Read(0, 8); string(b) != fresh(turn, 8) || e != api.OK {
					t.Errorf("R3: a disk beside others has %q, %d", b, e)
				}
			}
		})
	}
	all.Wait()
}

// The same calls make the same disk.
func TestAnswersHangOnTheCallsAlone(t *testing.T) {
	for _, l := range begun() {
		one, two := made(t, 8), made(t, 8)
		for _, c := range l {
			if a, b := do(one, c), do(two, c); a != b || dots(t, one) != dots(t, two) || one.Down() != two.Down() {
				t.Errorf("R2: %v: two disks with the same calls answer %d and %d", l, a, b)
			}
		}
	}
}

// Any byte may be written: texts have any bytes.
func TestAllBytesAreKept(t *testing.T) {
	all := make([]byte, 256)
	for i := range all {
		all[i] = byte(i)
	}
	d := made(t, 256)
	if e := d.Write(0, all); e != api.OK {
		t.Fatalf("R4: Write of all bytes is %d", e)
	}
	d.Sync()
	d.Write(0, bytes.Repeat([]byte{0xff}, 256))
	d.Crash(0, 128)
	if b, e := d.Read(0, 256); e != api.OK || !bytes.Equal(b[:128], bytes.Repeat([]byte{0xff}, 128)) || !bytes.Equal(b[128:], all[128:]) {
		t.Errorf("R4: all bytes become % x, %d", b, e)
	}
}
