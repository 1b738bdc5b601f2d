package wal_test

import (
	"testing"
)

// sideBySide are two wals in two parts of one disk: one part ends where the other begins.
func sideBySide(t *testing.T) (*pair, *pair) {
	d := made(t, 520)
	return newPair(t, d, 5, 220), newPair(t, d, 225, 221)
}

// held are both wals behind a crash: each is what its own calls make.
func held(t *testing.T, l ...*pair) {
	t.Helper()
	for _, x := range l {
		x.does(t, open())
	}
	for _, x := range l {
		x.does(t, commit("u"), open(), reset("v"), open(), commit("w"))
	}
	for _, x := range l {
		x.does(t, sync(), open())
		x.wants(t, "v", "w")
	}
}

func TestTwoWalsOfOneDisk(t *testing.T) {
	t.Parallel()
	for i, one := range scripts() {
		for _, two := range scripts()[i:] {
			for n := 0; n < 32; n += 3 {
				for keep := range 7 {
					for _, torn := range []int{0, 5, 17, 99} {
						x, y := sideBySide(t)
						x.does(t, stop(n))
						for k := range max(len(one), len(two)) {
							if k < len(one) {
								x.does(t, one[k])
							}
							if k < len(two) {
								y.does(t, two[k])
							}
						}
						x.does(t, crash(keep, torn))
						y.crashed = true
						held(t, x, y)
					}
				}
			}
		}
	}
}

// What one does, the other's records don't tell, with and without crashes.
func TestOneWalLeavesTheOther(t *testing.T) {
	x, y := sideBySide(t)
	x.does(t, open())
	y.does(t, open(), commit("a", "b"), sync())
	for _, script := range scripts() {
		x.does(t, script...)
		y.does(t, open())
		y.wants(t, "a", "b")
		x.does(t, reset())
	}
	x.does(t, reset("x"))
	for _, script := range scripts() {
		y.does(t, script...)
		x.wants(t, "x")
		y.does(t, reset())
	}
}

// Two disks: the one crashes, the other does not.
func TestWalsOfTwoDisks(t *testing.T) {
	for _, one := range scripts() {
		for _, two := range scripts() {
			x, y := opened(t, 220), opened(t, 220)
			x.does(t, one...)
			y.does(t, two...)
			x.does(t, stop(1), commit("s"), crash(0, 4))
			y.does(t, commit("s"), open())
			held(t, x, y)
		}
	}
}
