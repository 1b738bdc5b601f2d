package wal_test

import (
	"math"
	"slices"
	gosync "sync"
	"testing"

	"estreat/api"
	"estreat/disk"
	"estreat/wal"
)

// anyLists are batches, and lists that are none.
func anyLists() [][]string {
	return [][]string{nil, {}, {""}, {"a", "b"}, {text("a", 4000)}, {text("a", 4001)}, slices.Repeat([]string{""}, 1000), slices.Repeat([]string{""}, 1001)}
}

func TestNoWal(t *testing.T) {
	var w *wal.Wal
	for range 2 {
		for _, l := range anyLists() {
			if a, b := w.Commit(l), w.Reset(l); a != api.ErrNil || b != api.ErrNil {
				t.Errorf("R3: of no wal Commit(%s) is %d, Reset %d", brief(l), a, b)
			}
		}
		if e, n := w.Sync(), w.Len(); e != api.ErrNil || n != 0 {
			t.Errorf("R3: Sync of no wal is %d, its Len %d", e, n)
		}
	}
}

var farOff = []int{math.MinInt, math.MinInt + 1, -1000001, -1, 0, 1, 63, 64, 65, 1000, 999999, 1000000, 1000001, math.MaxInt - 64, math.MaxInt - 1, math.MaxInt}

func TestNoDisk(t *testing.T) {
	for _, m := range farOff {
		for _, n := range farOff {
			if w, l, e := wal.Open(nil, m, n); w != nil || len(l) != 0 || e != api.ErrNil {
				t.Errorf("R3: Open(no disk, %d, %d) is %v, %q, %d", m, n, w, l, e)
			}
		}
	}
}

func TestOpenEndsAtAllArguments(t *testing.T) {
	for _, m := range farOff {
		for _, n := range farOff {
			d := made(t, 1000)
			w, l, e := wal.Open(d, m, n)
			right := m >= 0 && m <= 1000 && n >= 64 && n <= 1000-m
			if (e == api.OK) != right || (w != nil) != right || len(l) != 0 || !right && e != api.ErrArg {
				t.Errorf("R1: Open(d, %d, %d) is %v, %q, %d", m, n, w, l, e)
			}
		}
	}
}

// A wal that Open has not made has no part; its calls end all the same.
func TestAWalOfNoPart(t *testing.T) {
	w := new(wal.Wal)
	for _, l := range anyLists() {
		if a, b := w.Commit(l), w.Reset(l); a == api.OK || b == api.OK {
			t.Errorf("R1: of a wal without a part Commit(%s) is %d, Reset %d", brief(l), a, b)
		}
	}
	if e := w.Sync(); e != api.ErrNil || w.Len() != 0 {
		t.Errorf("R1: of a wal without a part Sync is %d, Len %d", e, w.Len())
	}
}

// A wal that is used though it is not the one that was opened last: its calls end all the same.
func TestAnOldWal(t *testing.T) {
	for _, script := range scripts() {
		x := opened(t, 220)
		old := x.w
		x.does(t, script...)
		x.does(t, crash(0, 9), open())
		for _, l := range anyLists() {
			old.Commit(l)
			old.Sync()
			old.Reset(l)
			old.Len()
		}
		for range 30 {
			old.Commit(nil)
			x.w.Commit([]string{"a"})
		}
		wal.Open(x.d, 0, 220)
	}
}

func TestWhatIsHandedInStaysAndIsNotKept(t *testing.T) {
	for _, kind := range []byte{'c', 'r'} {
		x := opened(t, 1000)
		room := []string{"a", "", "bcd", "behind", "further"}
		want := slices.Clone(room)
		lay := x.w.Commit
		if kind == 'r' {
			lay = x.w.Reset
		}
		if e := lay(room[:3]); e != api.OK || !slices.Equal(room, want) {
			t.Fatalf("R2: what was handed in is changed, or what is behind it: %d, %q", e, room)
		}
		for i := range room {
			room[i] = "spoilt"
		}
		if x.w.Len() != 3 {
			t.Errorf("R2: Len is %d; want 3", x.w.Len())
		}
		x.wants(t, "a", "", "bcd")
		x.does(t, commit("e"), reset("f"), open())
		if !slices.Equal(room, slices.Repeat([]string{"spoilt"}, 5)) {
			t.Errorf("R2: later calls change what was handed in: %q", room)
		}
	}
}

// What Open hands out is written over, with the room behind it: no wal and no other answer knows.
func TestRecordsAreNew(t *testing.T) {
	x := opened(t, 1000)
	x.does(t, commit("a", "b"), commit("c"))
	_, one, _ := wal.Open(x.d, 0, 1000)
	w, two, _ := wal.Open(x.d, 0, 1000)
	one = one[:cap(one)]
	for i := range one {
		one[i] = "spoilt"
	}
	if !slices.Equal(two, []string{"a", "b", "c"}) || w.Len() != 3 {
		t.Errorf("R2: two answers of Open share their memory: %q", two)
	}
	if e := w.Commit([]string{"d"}); e != api.OK || !slices.Equal(two, []string{"a", "b", "c"}) {
		t.Errorf("R2: what came out of Open is changed by a later Commit: %d, %q", e, two)
	}
	if e := w.Reset([]string{"e"}); e != api.OK || !slices.Equal(two, []string{"a", "b", "c"}) {
		t.Errorf("R2: what came out of Open is changed by a later Reset: %d, %q", e, two)
	}
	x.since = []state{{[]string{"e"}, 25}}
	x.wants(t, "e")
}

// The same calls make the same wal, and the same disk.
func TestAnswersHangOnTheCallsAlone(t *testing.T) {
	for _, script := range scripts() {
		for n := range 12 {
			one, two := newPair(t, made(t, 220), 0, 220), newPair(t, made(t, 220), 0, 220)
			for _, c := range slices.Concat([]call{stop(n)}, script, []call{crash(1, 3), open(), commit("q")}) {
				one.does(t, c)
				two.does(t, c)
				a, _ := one.d.Read(0, 220)
				b, _ := two.d.Read(0, 220)
				if string(a) != string(b) || one.d.Down() != two.d.Down() || !slices.EqualFunc(one.since, two.since, func(a, b state) bool { return slices.Equal(a.records, b.records) }) {
					t.Fatalf("R2: behind %v two disks with the same calls are unlike", one.script)
				}
			}
		}
	}
}

func TestWalsAtOnce(t *testing.T) {
	var all gosync.WaitGroup
	for turn := range 8 {
		d, e := disk.New(300)
		if e != api.OK {
			t.Fatal(e)
		}
		all.Go(func() {
			for i := range 60 {
				w, l, e := wal.Open(d, 0, 300)
				if e != api.OK || i > 0 && !slices.Equal(l, []string{text("t", turn), text("u", i-1)}) {
					t.Errorf("R3: a wal beside others tells %q, %d", l, e)
					return
				}
				w.Reset([]string{text("t", turn)})
				w.Commit([]string{text("u", i)})
			}
		})
	}
	all.Wait()
}

// Any bytes may be a text's.
func TestAllBytesAreKept(t *testing.T) {
	x := opened(t, 20000)
	var want []string
	for i := range 256 {
		s := string([]byte{byte(i)})
		x.does(t, commit(s, s+s+"\x00"))
		want = append(want, s, s+s+"\x00")
	}
	x.wants(t, want...)
	x.does(t, reset(want...), crash(0, 0))
	x.wants(t, want...)
}
