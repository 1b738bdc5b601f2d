package disk_test

import (
	"math"
	"testing"

	"estreat/api"
)

func TestWriteByWords(t *testing.T) {
	d := made(t, 8)
	for _, x := range []struct {
		at   int
		data string
		e    api.Errno
		want string
	}{
		{0, "ab", api.OK, "ab......"},
		{1, "xy", api.OK, "axy....."},
		{7, "h", api.OK, "axy....h"},
		{7, "ij", api.ErrDiskEnd, "axy....h"},
		{8, "k", api.ErrDiskEnd, "axy....h"},
		{8, "", api.OK, "axy....h"},
		{9, "", api.ErrDiskEnd, "axy....h"},
		{-1, "", api.ErrDiskEnd, "axy....h"},
		{-1, "mn", api.ErrDiskEnd, "axy....h"},
		{0, "123456789", api.ErrDiskEnd, "axy....h"},
		{1, "12345678", api.ErrDiskEnd, "axy....h"},
		{0, "12345678", api.OK, "12345678"},
		{3, "", api.OK, "12345678"},
		{6, "pq", api.OK, "123456pq"},
		{0, "r", api.OK, "r23456pq"},
		{3, "\x00", api.OK, "r23.56pq"},
		{math.MaxInt, "s", api.ErrDiskEnd, "r23.56pq"},
		{math.MaxInt, "", api.ErrDiskEnd, "r23.56pq"},
		{math.MaxInt - 1, "st", api.ErrDiskEnd, "r23.56pq"},
		{math.MinInt, "s", api.ErrDiskEnd, "r23.56pq"},
		{math.MinInt, "", api.ErrDiskEnd, "r23.56pq"},
	} {
		if e := d.Write(x.at, []byte(x.data)); e != x.e || dots(t, d) != x.want {
			t.Errorf("P9.2: Write(%d, %q) is %d, and the disk has %s; want %d, %s", x.at, x.data, e, dots(t, d), x.e, x.want)
		}
	}
	if e := d.Write(0, nil); e != api.OK {
		t.Errorf("P9.2: Write(0, nil) is %d", e)
	}
}

// Every span, on a disk of which each place had something else.
func TestWriteOfAllSpans(t *testing.T) {
	for room := 1; room <= 9; room++ {
		for at := -2; at <= room+2; at++ {
			for n := 0; n <= room+2; n++ {
				x := newPair(t, room)
				x.does(t, write(0, fresh(20, room)), write(at, fresh(1, n)))
			}
		}
	}
}

func TestWriteAtTheEdges(t *testing.T) {
	for _, room := range rooms {
		for _, at := range []int{0, 1, room / 2, room - 1, room, room + 1, -1, -room, 1000000, math.MaxInt, math.MaxInt - room + 1, math.MinInt} {
			for _, n := range []int{0, 1, 2, room - 1, room, room + 1} {
				x := newPair(t, room)
				x.does(t, write(0, fresh(20, room)), write(at, fresh(1, n)))
			}
		}
	}
}

// Writes over one another, within one another, side by side, and one and the same twice: the later one is told.
func TestWritesThatMeet(t *testing.T) {
	for _, l := range meeting() {
		for _, room := range []int{8, 9, 1000000} {
			newPair(t, room).does(t, l...)
		}
	}
}

func meeting() [][]call {
	return [][]call{
		{write(1, "abcd"), write(3, "wxyz")},
		{write(3, "wxyz"), write(1, "abcd")},
		{write(0, "abcdefgh"), write(2, "xyz")},
		{write(2, "xyz"), write(0, "abcdefgh")},
		{write(0, "abc"), write(3, "def"), write(6, "gh")},
		{write(6, "gh"), write(3, "def"), write(0, "abc")},
		{write(2, "abc"), write(2, "abc")},
		{write(2, "abc"), write(2, "xyz"), write(2, "abc")},
		{write(0, "abcd"), write(0, "xy"), write(2, "xy"), write(1, "mn")},
		{write(4, "a"), write(4, "b"), write(4, "c"), write(4, "\x00")},
		{write(0, "ab"), write(1, ""), write(2, ""), write(0, ""), write(1, "cd")},
		{write(0, "abcdefgh"), write(0, "12345678"), write(0, "ABCDEFGH"), write(7, "z")},
		{write(0, "abcd"), write(4, "efgh"), write(2, "wxyz"), write(3, "mn"), write(3, "m")},
	}
}

// Sync alone, twice, and with nothing pending.
func TestSync(t *testing.T) {
	for _, room := range rooms {
		x := newPair(t, room)
		x.does(t, sync(), sync(), write(0, "a"), sync(), crash(0, 0), sync(), write(room-1, "z"), sync(), sync(), crash(-1, -1), write(0, ""), sync(), crash(0, 0))
	}
}

// Sync that answers otherwise than OK makes nothing safe.
func TestSyncThatIsRefusedLeavesWhatIsPending(t *testing.T) {
	x := newPair(t, 8)
	x.does(t, write(0, "abc"), sync(), stop(1), write(1, "xyz"), sync(), sync(), crash(0, 0))
	if got := dots(t, x.d); got != "abc....." {
		t.Errorf("P9.2: behind a Sync that was refused a crash leaves %s", got)
	}
}

// What is refused is not pending: keep goes by the others alone.
func TestWritesThatAreRefusedAreNotPending(t *testing.T) {
	for keep := range 5 {
		for torn := range 4 {
			x := newPair(t, 8)
			x.does(t, write(8, "q"), write(0, "abc"), write(-1, "q"), write(6, "qrs"), write(2, "mno"), write(9, ""), write(4, "xyz"), write(math.MaxInt, "q"), crash(keep, torn))
		}
	}
}
