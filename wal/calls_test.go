package wal_test

import (
	"math/rand"
	"slices"
	"strings"
	"testing"
)

// anyText is mostly short; many look like marks and numbers.
func anyText(r *rand.Rand, most int) string {
	fills := []string{"\x00", "\x01", "\x02", "\xff", "ab", mark(16), "\x00\x00\x00\x00\x00\x00\x00\x01"}
	return text(fills[r.Intn(len(fills))], r.Intn(most+1))
}

func anyBatch(r *rand.Rand, room int) []string {
	switch r.Intn(40) {
	case 0:
		return slices.Repeat([]string{""}, 1001)
	case 1:
		return []string{strings.Repeat("a", 4001)}
	case 2:
		return fits(room/2 - 16)
	}
	var l []string
	for range r.Intn(4) {
		l = append(l, anyText(r, room/9))
	}
	return l
}

func anyCall(r *rand.Rand, room int) call {
	switch r.Intn(16) {
	case 0:
		return open()
	case 1, 2:
		return sync()
	case 3, 4:
		return reset(anyBatch(r, room)...)
	case 5:
		return stop(r.Intn(9))
	case 6, 7:
		return crash(r.Intn(8)-1, r.Intn(room)-1)
	}
	return commit(anyBatch(r, room)...)
}

func TestLongScripts(t *testing.T) {
	for seed := range int64(1500) {
		r := rand.New(rand.NewSource(seed))
		room := 64 + r.Intn(400)
		from := r.Intn(20)
		x := newPair(t, made(t, from+room+r.Intn(3)), from, room)
		x.does(t, open())
		for range 120 {
			c := anyCall(r, room)
			x.does(t, c)
			if c.is('b') && r.Intn(3) > 0 {
				x.does(t, open())
			}
		}
		x.does(t, crash(0, 0))
		x.does(t, open())
	}
}

func TestLongScriptsOfAGreatPart(t *testing.T) {
	r := rand.New(rand.NewSource(1))
	x := opened(t, 1000000)
	for range 150 {
		c := anyCall(r, 30000)
		x.does(t, c)
		if c.is('b') {
			x.does(t, open())
		}
	}
}

// read makes a script of made-up bytes: three bytes a call.
func read(b []byte) []call {
	var l []call
	for ; len(b) >= 3; b = b[3:] {
		x, y := int(b[1]), int(b[2])
		batch := slices.Repeat([]string{text(string(b[1:3]), x%40)}, y%4)
		switch b[0] % 8 {
		case 0:
			l = append(l, open())
		case 1:
			l = append(l, sync())
		case 2:
			l = append(l, reset(batch...))
		case 3:
			l = append(l, stop(x%12))
		case 4:
			l = append(l, crash(x%12-1, y), open())
		case 5:
			l = append(l, crash(x%12-1, y), stop(y%4), open(), crash(y%4, x), open())
		default:
			l = append(l, commit(batch...))
		}
	}
	return l
}

func FuzzCalls(f *testing.F) {
	f.Add(uint16(100), []byte{0, 0, 0, 6, 1, 1, 1, 0, 0, 6, 30, 2, 4, 1, 20, 6, 2, 1, 0, 0, 0})
	f.Add(uint16(0), []byte{6, 0, 0, 6, 0, 0, 2, 0, 0, 3, 2, 0, 2, 0, 0, 5, 2, 1})
	f.Add(uint16(300), []byte{3, 4, 0, 6, 39, 3, 6, 1, 1, 2, 20, 2, 5, 3, 50, 6, 4, 1, 4, 3, 9})
	f.Fuzz(func(t *testing.T, n uint16, b []byte) {
		x := opened(t, 64+int(n%600))
		x.does(t, read(b)...)
		x.does(t, crash(len(b)%5, int(n)))
		x.does(t, open(), open())
	})
}
