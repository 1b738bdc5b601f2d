package disk_test

import (
	"math"
	"math/rand"
	"testing"
)

// turns are the calls of which all short scripts are made, on a disk of three places; what is written hangs on the turn, so that no two are alike.
func turns(turn int) []call {
	return []call{
		write(0, fresh(turn, 1)), write(1, fresh(turn, 2)), write(0, fresh(turn, 3)), write(3, ""), write(2, fresh(turn, 2)),
		sync(), stop(0), stop(1), stop(2),
		crash(0, 0), crash(0, 1), crash(1, 1), crash(1, 9), crash(9, 0),
	}
}

func TestAllShortScripts(t *testing.T) {
	const length = 5
	var script []call
	var grow func()
	grow = func() {
		if len(script) == length {
			newPair(t, 3).does(t, script...)
			return
		}
		for _, c := range turns(len(script)) {
			script = append(script, c)
			grow()
			script = script[:len(script)-1]
		}
	}
	grow()
}

// anyCall is mostly one that is taken.
func anyCall(r *rand.Rand, room, turn int) call {
	far := []int{-1, math.MinInt, math.MaxInt, room, room + 1, 1000001}
	number := func(n int) int {
		if r.Intn(12) == 0 {
			return far[r.Intn(len(far))]
		}
		return r.Intn(n + 1)
	}
	switch r.Intn(20) {
	case 0, 1:
		return sync()
	case 2:
		return stop(number(12))
	case 3, 4:
		return crash(number(8), number(room))
	}
	at := number(room)
	if at < 0 || at > room || r.Intn(12) == 0 {
		return write(at, fresh(turn, r.Intn(room+2)))
	}
	return write(at, fresh(turn, r.Intn(room-at+1)))
}

func TestLongScripts(t *testing.T) {
	for seed := range int64(400) {
		r := rand.New(rand.NewSource(seed))
		room := 1 + r.Intn(24)
		x := newPair(t, room)
		for turn := range 150 {
			x.does(t, anyCall(r, room, turn))
		}
	}
}

func TestLongScriptsOnTheGreatestDisk(t *testing.T) {
	r := rand.New(rand.NewSource(1))
	x := newPair(t, 1000000)
	for turn := range 60 {
		x.does(t, anyCall(r, 1000000, turn))
	}
}

// A long row of pending writes, each of which keeps what it wrote over.
func TestManyPendingWrites(t *testing.T) {
	const n = 5000
	for _, keep := range []int{-1, 0, 1, 17, n - 1, n, n + 1} {
		x := newPair(t, 8)
		for i := range n {
			c := write(i%6, fresh(i, 3))
			do(x.d, c)
			x.p.do(c)
		}
		x.does(t, crash(keep, 2))
	}
}

// script reads made-up bytes as calls: three bytes a call.
func script(b []byte, room int) []call {
	var l []call
	for turn := 0; len(b) >= 3; turn, b = turn+1, b[3:] {
		x, y := int(int8(b[1])), int(int8(b[2]))
		switch b[0] % 8 {
		case 0:
			l = append(l, sync())
		case 1:
			l = append(l, stop(x))
		case 2:
			l = append(l, crash(x, y))
		default:
			l = append(l, write(x%(room+2), fresh(turn, int(b[2])%(room+2))))
		}
	}
	return l
}

func FuzzCalls(f *testing.F) {
	f.Add(uint16(8), []byte{3, 0, 2, 0, 0, 0, 3, 1, 2, 3, 4, 1, 2, 1, 0})
	f.Add(uint16(1), []byte{1, 1, 0, 3, 0, 1, 3, 0, 1, 2, 0, 9})
	f.Add(uint16(3), []byte{3, 3, 0, 3, 0, 3, 2, 255, 255, 1, 0, 0, 0, 0, 0, 2, 1, 1})
	f.Fuzz(func(t *testing.T, n uint16, b []byte) {
		room := 1 + int(n%40)
		newPair(t, room).does(t, script(b, room)...)
	})
}
