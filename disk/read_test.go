package disk_test

import (
	"bytes"
	"math"
	"testing"

	"estreat/api"
	"estreat/disk"
)

var rooms = []int{1, 2, 8, 1000000}

func TestNewOfRooms(t *testing.T) {
	for _, room := range append([]int{3, 64, 120000, 999999, api.MaxRoom}, rooms...) {
		d := made(t, room)
		if d.Room() != room || d.Down() {
			t.Errorf("P9.1: a disk of %d has Room %d, Down %t", room, d.Room(), d.Down())
		}
		if b, e := d.Read(0, room); e != api.OK || !bytes.Equal(b, make([]byte, room)) {
			t.Errorf("P9.1: a new disk of %d is not all 0, or %d", room, e)
		}
	}
}

func TestNewRefusesOtherRooms(t *testing.T) {
	for _, room := range []int{0, -1, -8, 1000001, 1000002, 2000000, math.MaxInt32, math.MaxInt32 + 1, math.MaxInt, math.MinInt, math.MinInt + 1} {
		if d, e := disk.New(room); d != nil || e != api.ErrArg {
			t.Errorf("P9.1: New(%d) is %v, %d", room, d, e)
		}
	}
}

// Room is what New was told, whatever comes.
func TestRoomStays(t *testing.T) {
	for _, room := range rooms {
		x := newPair(t, room)
		x.does(t, write(0, "a"), write(room, ""), sync(), write(room-1, "z"), write(room, "z"), stop(1), sync(), sync(), crash(0, 0), write(0, "b"), crash(5, 5), crash(-1, -1))
	}
}

// spans are places and numbers of them, of which some are in a disk of that room.
func spans(room int) [][2]int {
	edges := []int{-1, 0, 1, 2, room/2 - 1, room / 2, room - 1, room, room + 1, 2 * room, -room, 1000000, 1000001,
		math.MaxInt, math.MaxInt - 1, math.MaxInt - room, math.MaxInt - room + 1, math.MinInt, math.MinInt + 1, math.MaxInt / 2, math.MaxInt/2 + 1, math.MaxInt32, math.MaxInt32 + 1}
	var l [][2]int
	for _, at := range edges {
		for _, n := range edges {
			l = append(l, [2]int{at, n})
		}
	}
	return l
}

func wantRead(t *testing.T, d *disk.Disk, whole string, at, n int) {
	t.Helper()
	b, e := d.Read(at, n)
	if !newPlayed(len(whole)).has(at, n) {
		if len(b) != 0 || e != api.ErrDiskEnd {
			t.Errorf("P9.1: Read(%d, %d) of %d places is %q, %d", at, n, len(whole), brief(b), e)
		}
		return
	}
	if string(b) != whole[at:at+n] || e != api.OK {
		t.Errorf("P9.1: Read(%d, %d) of %d places is %q, %d; want %q", at, n, len(whole), brief(b), e, brief(whole[at:at+n]))
	}
}

func TestReadOfAllSpans(t *testing.T) {
	for room := 1; room <= 12; room++ {
		d, whole := made(t, room), fresh(3, room)
		d.Write(0, []byte(whole))
		for at := -2; at <= room+2; at++ {
			for n := -2; n <= room+2; n++ {
				wantRead(t, d, whole, at, n)
			}
		}
	}
}

func TestReadAtTheEdges(t *testing.T) {
	for _, room := range rooms {
		d, whole := made(t, room), fresh(5, room)
		d.Write(0, []byte(whole))
		for _, s := range spans(room) {
			wantRead(t, d, whole, s[0], s[1])
		}
	}
}

func TestReadByWords(t *testing.T) {
	d := made(t, 8)
	d.Write(0, []byte("abcdefgh"))
	for _, x := range []struct {
		at, n int
		want  string
		e     api.Errno
	}{
		{0, 0, "", api.OK}, {7, 0, "", api.OK}, {8, 0, "", api.OK}, {9, 0, "", api.ErrDiskEnd}, {-1, 0, "", api.ErrDiskEnd},
		{0, 1, "a", api.OK}, {7, 1, "h", api.OK}, {8, 1, "", api.ErrDiskEnd}, {-1, 1, "", api.ErrDiskEnd}, {-1, 2, "", api.ErrDiskEnd},
		{0, 8, "abcdefgh", api.OK}, {0, 9, "", api.ErrDiskEnd}, {1, 8, "", api.ErrDiskEnd}, {-1, 8, "", api.ErrDiskEnd}, {1, 7, "bcdefgh", api.OK},
		{0, -1, "", api.ErrDiskEnd}, {8, -1, "", api.ErrDiskEnd}, {9, -1, "", api.ErrDiskEnd}, {-1, -1, "", api.ErrDiskEnd},
		{1, math.MaxInt, "", api.ErrDiskEnd}, {math.MaxInt, 1, "", api.ErrDiskEnd}, {math.MaxInt, math.MaxInt, "", api.ErrDiskEnd},
		{math.MinInt, math.MinInt, "", api.ErrDiskEnd}, {math.MinInt, math.MaxInt, "", api.ErrDiskEnd}, {math.MaxInt, math.MinInt, "", api.ErrDiskEnd},
		{3, 2, "de", api.OK},
	} {
		if b, e := d.Read(x.at, x.n); string(b) != x.want || e != x.e {
			t.Errorf("P9.1: Read(%d, %d) is %q, %d; want %q, %d", x.at, x.n, b, e, x.want, x.e)
		}
	}
}

// A disk that has stopped is read all the same, and its edges stay where they are.
func TestReadOfADiskThatHasStopped(t *testing.T) {
	for _, room := range rooms {
		d, whole := made(t, room), fresh(9, room)
		d.Write(0, []byte(whole))
		if e := d.Stop(0); e != api.OK || !d.Down() {
			t.Fatalf("P9.3: Stop(0) is %d", e)
		}
		for _, s := range spans(room) {
			wantRead(t, d, whole, s[0], s[1])
		}
		if !d.Down() || d.Room() != room {
			t.Errorf("P9.1: Read of a disk that has stopped makes it Down %t, Room %d", d.Down(), d.Room())
		}
	}
}

// Read is no call that Stop counts, and nothing becomes safe by it.
func TestReadChangesNothing(t *testing.T) {
	x := newPair(t, 8)
	x.does(t, write(0, "abc"), sync(), stop(2), write(1, "xy"))
	for range 5 {
		x.isSame(t, "P9.1")
		wantRead(t, x.d, "axy\x00\x00\x00\x00\x00", 1, 2)
		wantRead(t, x.d, "axy\x00\x00\x00\x00\x00", 9, 1)
	}
	x.does(t, write(7, "z"), sync(), crash(0, 0))
	wantRead(t, x.d, "abc\x00\x00\x00\x00\x00", 0, 8)
}
