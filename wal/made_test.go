package wal_test

import (
	"fmt"
	"slices"
	"strings"
	"testing"

	"estreat/api"
	"estreat/disk"
	"estreat/wal"
)

// call is one of a wal's, or of its disk's: by its first letter.
type call struct {
	kind byte // 'c'ommit, 's'ync, 'r'eset, 'o'pen, 'e'nd (the disk's Stop), 'b'reak (its Crash)
	l    []string
	x, y int // n; or keep and torn
}

func commit(l ...string) call    { return call{kind: 'c', l: l} }
func sync() call                 { return call{kind: 's'} }
func reset(l ...string) call     { return call{kind: 'r', l: l} }
func open() call                 { return call{kind: 'o'} }
func stop(n int) call            { return call{kind: 'e', x: n} }
func crash(keep, torn int) call  { return call{kind: 'b', x: keep, y: torn} }
func (c call) is(k ...byte) bool { return slices.Contains(k, c.kind) }

func (c call) String() string {
	switch c.kind {
	case 'c':
		return "Commit(" + brief(c.l) + ")"
	case 's':
		return "Sync()"
	case 'r':
		return "Reset(" + brief(c.l) + ")"
	case 'o':
		return "Open()"
	case 'e':
		return fmt.Sprintf("Stop(%d)", c.x)
	}
	return fmt.Sprintf("Crash(%d, %d)", c.x, c.y)
}

func brief(l []string) string {
	s := fmt.Sprintf("%q", l)
	if len(s) > 200 {
		return fmt.Sprintf("%d texts, %s..", len(l), s[:200])
	}
	return s
}

// costs is the chapter's word: 16, and for each text 8 and how many bytes it has.
func costs(l []string) int {
	return 16 + 8*len(l) + len(strings.Join(l, ""))
}

func isBatch(l []string) bool {
	return len(l) <= 1000 && !slices.ContainsFunc(l, func(s string) bool { return len(s) > 4000 })
}

// above tells whether costs are above half of a room, less 16.
func above(cost, room int) bool { return 2*(cost+16) > room }

// state is what a wal may be: its records, and what all batches since and with its last Reset cost.
type state struct {
	records []string
	cost    int
}

func (s state) with(c call) state {
	switch c.kind {
	case 'c':
		return state{slices.Concat(s.records, c.l), s.cost + costs(c.l)}
	case 'r':
		return state{slices.Clone(c.l), costs(c.l)}
	}
	return s
}

// pair is a wal on a disk, and what it may be by the chapter's words.
type pair struct {
	d          *disk.Disk
	w          *wal.Wal
	from, room int
	script     []call
	since      []state // what it was when it was last safe, and behind each call that answered OK since then
	perhaps    *state  // what the first call makes that answered ErrDiskDown since then
	doubt      int     // how much more its batches may cost than is known: a crash may have lost some of no text
	crashed    bool    // and not opened since
}

// newPair opens nothing: that is a script's first call.
func newPair(t testing.TB, d *disk.Disk, from, room int) *pair {
	t.Helper()
	return &pair{d: d, from: from, room: room, since: []state{{}}, crashed: true}
}

func made(t testing.TB, room int) *disk.Disk {
	t.Helper()
	d, e := disk.New(room)
	if e != api.OK {
		t.Fatalf("New(%d) is %d", room, e)
	}
	return d
}

// opened is a wal in all of a new disk.
func opened(t testing.TB, room int) *pair {
	t.Helper()
	x := newPair(t, made(t, room), 0, room)
	x.does(t, open())
	return x
}

func (x *pair) now() state { return x.since[len(x.since)-1] }

func (x *pair) fail(t testing.TB, form string, a ...any) {
	t.Helper()
	t.Fatalf("%s\nbehind %v of the part %d, %d", fmt.Sprintf(form, a...), x.script, x.from, x.room)
}

// does lets the wal do a script, and holds each answer against what it may be.
func (x *pair) does(t testing.TB, script ...call) {
	t.Helper()
	for _, c := range script {
		if x.crashed && c.is('c', 's', 'r') {
			continue // no wal is open
		}
		x.script = append(x.script, c)
		x.one(t, c)
		if !x.crashed && x.w.Len() != len(x.now().records) {
			x.fail(t, "P10.3: Len is %d; want %d", x.w.Len(), len(x.now().records))
		}
	}
}

func (x *pair) one(t testing.TB, c call) {
	t.Helper()
	switch c.kind {
	case 'e':
		x.d.Stop(c.x)
	case 'b':
		if e := x.d.Crash(c.x, c.y); e != api.OK {
			x.fail(t, "Crash is %d", e)
		}
		x.crashed = true
	case 'o':
		x.opens(t)
	case 's':
		x.ends(t, c, x.w.Sync(), true)
	case 'c':
		if e := x.w.Commit(c.l); !x.refused(t, c, x.now().cost, e) {
			x.ends(t, c, e, false)
		}
	case 'r':
		if e := x.w.Reset(c.l); !x.refused(t, c, 0, e) {
			x.ends(t, c, e, true)
		}
	}
}

// refused is for the errors that are not the disk's: ahead of them.
func (x *pair) refused(t testing.TB, c call, used int, e api.Errno) bool {
	t.Helper()
	sum := used + costs(c.l)
	switch {
	case !isBatch(c.l):
		if e != api.ErrLimit {
			x.fail(t, "P10.2: no batch: %d; want ErrLimit", e)
		}
		return true
	case e == api.ErrWalFull:
		if !above(sum, x.room) && (c.is('r') || !above(sum+x.doubt, x.room)) {
			x.fail(t, "P10.2: ErrWalFull at costs of %d", sum)
		}
		return true
	case above(sum, x.room):
		x.fail(t, "costs of %d: %d; want ErrWalFull", sum, e)
	}
	return false
}

// ends is for a call that is OK, or that the disk has stopped in.
func (x *pair) ends(t testing.TB, c call, e api.Errno, safe bool) {
	t.Helper()
	switch {
	case e == api.OK && safe:
		x.safe(x.now().with(c))
	case e == api.OK:
		x.since = append(x.since, x.now().with(c))
	case e == api.ErrDiskDown && x.d.Down():
		if x.perhaps == nil {
			s := x.now().with(c)
			x.perhaps = &s
		}
	default:
		x.fail(t, "P10.2: %v is %d, Down %t", c, e, x.d.Down())
	}
	if e == api.OK && c.is('r') {
		x.doubt = 0
	}
}

func (x *pair) safe(s state) {
	x.since, x.perhaps = []state{s}, nil
}

func (x *pair) opens(t testing.TB) {
	t.Helper()
	w, l, e := wal.Open(x.d, x.from, x.room)
	if e == api.ErrDiskDown && x.d.Down() {
		if w != nil || len(l) != 0 {
			x.fail(t, "R1: Open is ErrDiskDown, with %s", brief(l))
		}
		if x.perhaps == nil {
			s := x.now()
			x.perhaps = &s
		}
		return
	}
	if e != api.OK || w == nil {
		x.fail(t, "P10.1: Open is %d, Down %t", e, x.d.Down())
	}
	x.found(t, l)
	x.w, x.crashed = w, false
}

// found holds what Open tells against all that it may.
func (x *pair) found(t testing.TB, l []string) {
	t.Helper()
	may := []state{x.now()}
	if x.crashed {
		may = slices.Clone(x.since)
		if x.perhaps != nil {
			may = append(may, *x.perhaps)
		}
	}
	may = slices.DeleteFunc(may, func(s state) bool { return !slices.Equal(s.records, l) })
	if len(may) == 0 {
		x.fail(t, "P10.4: Open tells %s, which none of the calls makes", brief(l))
	}
	least, most := may[0].cost, may[0].cost
	for _, s := range may {
		least, most = min(least, s.cost), max(most, s.cost)
	}
	x.safe(state{slices.Clone(l), least})
	x.doubt += most - least
}

// wants is for what can be told beforehand.
func (x *pair) wants(t testing.TB, want ...string) {
	t.Helper()
	w, l, e := wal.Open(x.d, x.from, x.room)
	if e != api.OK || !slices.Equal(l, want) || w.Len() != len(want) {
		x.fail(t, "P10.5: Open tells %s, %d, Len %d; want %s", brief(l), e, w.Len(), brief(want))
	}
	x.w, x.crashed, x.doubt = w, false, 0
	x.safe(state{slices.Clone(want), x.now().cost})
}

// costing is a batch of that cost: 16, or from 24 on.
func costing(cost int, fill string) []string {
	var l []string
	for left := cost - 16; left > 0; {
		n := min(left-8, 4000)
		if rest := left - 8 - n; rest > 0 && rest < 8 {
			n -= 8
		}
		l = append(l, text(fill, n))
		left -= 8 + n
	}
	return l
}

// text repeats what it is filled with, to so many bytes.
func text(fill string, n int) string {
	return strings.Repeat(fill, n/len(fill)+1)[:n]
}
