package disk_test

import (
	"math"
	"testing"

	"estreat/api"
)

func TestStopAtOnce(t *testing.T) {
	for _, room := range rooms {
		d := made(t, room)
		if e := d.Stop(0); e != api.OK || !d.Down() {
			t.Errorf("P9.3: Stop(0) is %d, Down %t", e, d.Down())
		}
		if a, b, c := d.Write(0, []byte("a")), d.Sync(), d.Stop(0); a != api.ErrDiskDown || b != api.ErrDiskDown || c != api.ErrDiskDown {
			t.Errorf("P9.3: behind Stop(0) Write is %d, Sync %d, Stop %d", a, b, c)
		}
		if b, e := d.Read(0, 1); string(b) != "\x00" || e != api.OK || !d.Down() {
			t.Errorf("P9.3: behind Stop(0) Read is %q, %d, Down %t", b, e, d.Down())
		}
	}
}

// Exactly so many calls are done, whichever of the two they are.
func TestStopBehindCalls(t *testing.T) {
	for n := range 7 {
		for mix := range 1 << 7 {
			x := newPair(t, 8)
			x.does(t, write(0, "abcdefgh"), stop(n))
			for i := range 9 {
				if x.d.Down() != (i >= n) {
					t.Fatalf("P9.3: behind Stop(%d) and %d calls Down is %t", n, i, x.d.Down())
				}
				if mix>>i&1 == 1 {
					x.does(t, sync())
				} else {
					x.does(t, write(i%8, fresh(i, 1)))
				}
			}
		}
	}
}

func TestStopBehindTheGreatestNumberOfCalls(t *testing.T) {
	for _, n := range []int{1000000, 999999} {
		d := made(t, 2)
		if e := d.Stop(n); e != api.OK {
			t.Fatalf("P9.3: Stop(%d) is %d", n, e)
		}
		for i := range n {
			e := api.OK
			if i%3 == 0 {
				e = d.Write(0, []byte{byte(i)})
			} else {
				e = d.Sync()
			}
			if e != api.OK || d.Down() != (i == n-1) {
				t.Fatalf("P9.3: behind Stop(%d) call %d is %d, Down %t", n, i, e, d.Down())
			}
		}
		if a, b := d.Write(1, nil), d.Sync(); a != api.ErrDiskDown || b != api.ErrDiskDown {
			t.Errorf("P9.3: behind Stop(%d) and as many calls Write is %d, Sync %d", n, a, b)
		}
	}
}

func TestStopRefusesOtherNumbers(t *testing.T) {
	for _, n := range []int{-1, -2, 1000001, 1000002, math.MaxInt, math.MinInt, math.MaxInt32, math.MaxInt32 + 1, math.MinInt32 - 1} {
		d := made(t, 8)
		if e := d.Stop(n); e != api.ErrArg || d.Down() {
			t.Errorf("P9.3: Stop(%d) is %d, Down %t", n, e, d.Down())
		}
		for range 3 {
			if a, b := d.Write(0, []byte("a")), d.Sync(); a != api.OK || b != api.OK || d.Down() {
				t.Errorf("P9.3: behind Stop(%d) Write is %d, Sync %d", n, a, b)
			}
		}
	}
}

// A Stop that is refused leaves the one ahead of it in force.
func TestStopThatIsRefusedChangesNothing(t *testing.T) {
	for _, n := range []int{-1, 1000001, math.MaxInt, math.MinInt} {
		newPair(t, 8).does(t, stop(2), stop(n), write(0, "a"), stop(n), sync(), stop(n), write(1, "b"), crash(1, 0), stop(n), write(1, "b"), sync())
	}
}

// The last Stop that is taken is in force, whether it is for later or for sooner.
func TestStopInThePlaceOfAnother(t *testing.T) {
	for one := 1; one <= 4; one++ {
		for calls := range one {
			for two := range 6 {
				x := newPair(t, 8)
				x.does(t, stop(one))
				for i := range calls {
					x.does(t, write(i, "a"))
				}
				x.does(t, stop(two))
				for i := range 7 {
					if x.d.Down() != (i >= two) {
						t.Fatalf("P9.3: Stop(%d), %d calls, Stop(%d), %d calls: Down is %t", one, calls, two, i, x.d.Down())
					}
					x.does(t, write(7-i, "b"))
				}
			}
		}
	}
	newPair(t, 8).does(t, stop(1), stop(1000000), write(0, "a"), sync(), write(0, "b"), stop(1), sync(), sync(), stop(1))
}

// A call that is refused is none of those that are counted; nor is Read, Room, Down or Stop.
func TestCallsThatAreRefusedAreNotCounted(t *testing.T) {
	x := newPair(t, 8)
	x.does(t, stop(2), write(9, ""), write(-1, "a"), write(8, "a"), write(math.MaxInt, "abc"), write(0, "a"), write(0, "123456789"), write(7, "ab"))
	if x.d.Down() {
		t.Fatalf("P9.3: calls that were refused are counted")
	}
	for range 3 {
		x.d.Read(0, 8)
		x.d.Read(0, 9)
		x.d.Room()
		x.d.Down()
	}
	x.does(t, stop(-1), sync())
	if !x.d.Down() {
		t.Fatalf("P9.3: it has not stopped behind two calls")
	}
	x.does(t, write(0, "b"))
}

// A write of no byte is one that answers OK.
func TestStopCountsWritesOfNoByte(t *testing.T) {
	x := newPair(t, 8)
	x.does(t, stop(3), write(0, ""), write(8, ""), write(3, ""))
	if !x.d.Down() {
		t.Errorf("P9.3: writes of no byte are not counted")
	}
}

// ErrDiskDown is told ahead of what else is wrong.
func TestDownComesFirst(t *testing.T) {
	d := made(t, 8)
	d.Write(0, []byte("abc"))
	d.Stop(0)
	for _, at := range []int{0, 8, 9, -1, math.MaxInt, math.MinInt} {
		for _, data := range []string{"", "x", "123456789"} {
			if e := d.Write(at, []byte(data)); e != api.ErrDiskDown {
				t.Errorf("P9.2: Write(%d, %q) of a disk that has stopped is %d", at, data, e)
			}
		}
	}
	for _, n := range []int{0, 1, 1000000, -1, 1000001, math.MaxInt, math.MinInt} {
		if e := d.Stop(n); e != api.ErrDiskDown || !d.Down() {
			t.Errorf("P9.3: Stop(%d) of a disk that has stopped is %d, Down %t", n, e, d.Down())
		}
	}
	if e := d.Sync(); e != api.ErrDiskDown {
		t.Errorf("P9.2: Sync of a disk that has stopped is %d", e)
	}
	if got := dots(t, d); got != "abc....." {
		t.Errorf("P9.2: a disk that has stopped is written: %s", got)
	}
}

// The call behind which it stops is done as a whole: a Sync makes safe, a write is pending.
func TestTheLastCallAheadOfAStopIsDone(t *testing.T) {
	for _, x := range []struct {
		l    []call
		want string
	}{
		{[]call{write(0, "abc"), stop(1), sync(), crash(0, 0)}, "abc....."},
		{[]call{write(0, "abc"), stop(1), write(3, "def"), crash(2, 0)}, "abcdef.."},
		{[]call{write(0, "abc"), stop(1), write(3, "def"), crash(1, 2)}, "abcde..."},
		{[]call{write(0, "abc"), stop(1), write(3, "def"), crash(0, 1)}, "a......."},
		{[]call{write(0, "abc"), stop(0), crash(0, 0)}, "........"},
		{[]call{write(0, "abc"), stop(0), crash(1, 0)}, "abc....."},
		{[]call{write(0, "abc"), stop(2), sync(), write(0, "x"), sync(), write(1, "y"), crash(0, 0)}, "abc....."},
	} {
		p := newPair(t, 8)
		p.does(t, x.l...)
		if got := dots(t, p.d); got != x.want {
			t.Errorf("P9.3: %v leaves %s; want %s", x.l, got, x.want)
		}
	}
}

// Behind a crash no Stop is in force, neither one that has come nor one that was yet to come.
func TestCrashEndsAStop(t *testing.T) {
	for n := range 4 {
		for calls := range 5 {
			x := newPair(t, 8)
			x.does(t, write(0, "ab"), sync(), stop(n))
			for i := range calls {
				x.does(t, write(i, fresh(i, 2)))
			}
			x.does(t, crash(1, 1))
			for i := range 6 {
				x.does(t, write(i, fresh(i+8, 3)), sync())
				if x.d.Down() {
					t.Fatalf("P9.4: a Stop(%d) is in force behind a crash", n)
				}
			}
			x.does(t, stop(1), sync(), sync())
		}
	}
}
