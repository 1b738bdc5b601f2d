package disk_test

import (
	"bytes"
	"fmt"
	"slices"
	"testing"

	"estreat/api"
	"estreat/disk"
)

// put is a write as it was made, or as much of it as lasts.
type put struct {
	at   int
	data string
}

// played is a disk that keeps no bytes: only all writes that are done, from the first one on. What it has is told by playing them anew.
type played struct {
	room   int
	puts   []put
	synced int // so many of them are not pending
	stop   int // behind so many calls it stops; -1: no Stop is in force
}

func newPlayed(room int) *played { return &played{room: room, stop: -1} }

func (p *played) bytes() []byte {
	all := make([]byte, p.room)
	for _, x := range p.puts {
		for i := range len(x.data) {
			all[x.at+i] = x.data[i]
		}
	}
	return all
}

// has adds up by a kind that has room for the sum of two ints that are not below 0.
func (p *played) has(at, n int) bool {
	return at >= 0 && n >= 0 && uint64(at)+uint64(n) <= uint64(p.room)
}

func (p *played) down() bool { return p.stop == 0 }

func (p *played) passed() {
	if p.stop > 0 {
		p.stop--
	}
}

func (p *played) write(at int, data string) api.Errno {
	if p.down() {
		return api.ErrDiskDown
	}
	if !p.has(at, len(data)) {
		return api.ErrDiskEnd
	}
	p.puts = append(p.puts, put{at, data})
	p.passed()
	return api.OK
}

func (p *played) sync() api.Errno {
	if p.down() {
		return api.ErrDiskDown
	}
	p.synced = len(p.puts)
	p.passed()
	return api.OK
}

func (p *played) setStop(n int) api.Errno {
	if p.down() {
		return api.ErrDiskDown
	}
	if n < 0 || n > 1000000 {
		return api.ErrArg
	}
	p.stop = n
	return api.OK
}

func (p *played) crash(keep, torn int) api.Errno {
	pending := p.puts[p.synced:]
	p.puts = slices.Clone(p.puts[:p.synced])
	for i, x := range pending {
		if i < keep {
			p.puts = append(p.puts, x)
			continue
		}
		n := torn
		if n >= len(x.data) {
			n = len(x.data) - 1
		}
		if n > 0 {
			p.puts = append(p.puts, put{x.at, x.data[:n]})
		}
		break
	}
	p.synced = len(p.puts)
	p.stop = -1
	return api.OK
}

// call is one of a disk's: by its first letter.
type call struct {
	kind byte   // 'w'rite, 's'ync, 'e'nd (Stop), 'c'rash
	x, y int    // at; or n; or keep and torn
	data string // what is written
}

func (c call) String() string {
	switch c.kind {
	case 'w':
		return fmt.Sprintf("Write(%d, %q)", c.x, brief(c.data))
	case 's':
		return "Sync()"
	case 'e':
		return fmt.Sprintf("Stop(%d)", c.x)
	}
	return fmt.Sprintf("Crash(%d, %d)", c.x, c.y)
}

// brief is the beginning of what is too long to tell.
func brief[T string | []byte](s T) string {
	if len(s) > 40 {
		return string(s[:40]) + ".."
	}
	return string(s)
}

func write(at int, data string) call { return call{kind: 'w', x: at, data: data} }
func sync() call                     { return call{kind: 's'} }
func stop(n int) call                { return call{kind: 'e', x: n} }
func crash(keep, torn int) call      { return call{kind: 'c', x: keep, y: torn} }

func (p *played) do(c call) api.Errno {
	switch c.kind {
	case 'w':
		return p.write(c.x, c.data)
	case 's':
		return p.sync()
	case 'e':
		return p.setStop(c.x)
	}
	return p.crash(c.x, c.y)
}

func do(d *disk.Disk, c call) api.Errno {
	switch c.kind {
	case 'w':
		return d.Write(c.x, []byte(c.data))
	case 's':
		return d.Sync()
	case 'e':
		return d.Stop(c.x)
	}
	return d.Crash(c.x, c.y)
}

// pair is a disk and what it is held against.
type pair struct {
	d    *disk.Disk
	p    *played
	done []call
}

func newPair(t testing.TB, room int) *pair {
	t.Helper()
	return &pair{d: made(t, room), p: newPlayed(room)}
}

// does lets both do the calls, and holds them against one another behind each.
func (x *pair) does(t testing.TB, l ...call) {
	t.Helper()
	for _, c := range l {
		x.done = append(x.done, c)
		got, want := do(x.d, c), x.p.do(c)
		if got != want {
			t.Fatalf("%s: a disk of %d: %v: the last answers %d; want %d", promiseOf(c), x.p.room, x.done, got, want)
		}
		x.isSame(t, promiseOf(c))
	}
}

func (x *pair) isSame(t testing.TB, promise string) {
	t.Helper()
	if x.d.Down() != x.p.down() || x.d.Room() != x.p.room {
		t.Fatalf("%s: a disk of %d: %v: Down is %t, Room %d; want %t", promise, x.p.room, x.done, x.d.Down(), x.d.Room(), x.p.down())
	}
	b, e := x.d.Read(0, x.p.room)
	if want := x.p.bytes(); e != api.OK || !bytes.Equal(b, want) {
		t.Fatalf("%s: a disk of %d: %v: it has %q, %d; want %q", promise, x.p.room, x.done, brief(b), e, brief(want))
	}
}

func promiseOf(c call) string {
	switch c.kind {
	case 'e':
		return "P9.3"
	case 'c':
		return "P9.4"
	}
	return "P9.2"
}

func made(t testing.TB, room int) *disk.Disk {
	t.Helper()
	d, e := disk.New(room)
	if d == nil || e != api.OK {
		t.Fatalf("P9.1: New(%d) is %v, %d", room, d, e)
	}
	return d
}

// fresh is n bytes that no other call of a script has, none of them 0.
func fresh(turn, n int) string {
	b := make([]byte, n)
	for i := range b {
		b[i] = byte(1 + (turn*7+i)%255)
	}
	return string(b)
}
