package history_test

import (
	"slices"
	"strings"
	"sync"
	"testing"

	"estreat/api"
	"estreat/history"
)

// roomy is l with room behind it, all of it strange items, and that whole.
func roomy(l []api.Item) (log, whole []api.Item) {
	whole = behind(l, slices.Repeat([]api.Item{text(77, 2, 77, "strange")}, 9)...)
	return whole[:len(l)], whole
}

// callAll calls every call, with such a log.
func callAll(l []api.Item, n int) {
	history.Check(l)
	history.Find(l, 1, n)
	history.May(l, user(900000000, 1, 1000000))
	history.May(l, api.Item{})
	history.Root(l, n)
	history.Head(l, n, 1, 1, 1)
	history.Inclusion(l, n, n/2)
	history.Consistency(l, n/2, n)
}

func TestCallsEndAtAllArguments(t *testing.T) {
	numbers := append(farOff, 0, 1, 2, 3, 4, 2000, 2001)
	for _, l := range [][]api.Item{nil, {}, {{}}, users(1), made(3), {user(2, 1, 1), user(1, 1, 1)}} {
		right := logIsRight(l)
		for _, n := range numbers {
			for _, i := range numbers {
				wantFind(t, l, n, i)
				root, incl, cons := api.OK, api.OK, api.OK
				if n < 0 || n > len(l) {
					root = api.ErrTreeSize
				}
				if i < 0 || i >= n {
					incl = api.ErrTreeIndex
				}
				if i < 0 || i > n {
					cons = api.ErrTreeSize
				}
				if root != api.OK {
					incl, cons = root, root
				}
				if !right {
					root, incl, cons = api.ErrHistoryForm, api.ErrHistoryForm, api.ErrHistoryForm
				}
				if d, e := history.Root(l, n); e != root || (d == api.Digest{}) != (root != api.OK) {
					t.Errorf("R1: Root of %d items, %d, is %x, %d", len(l), n, d, e)
				}
				if p, e := history.Inclusion(l, n, i); e != incl || e != api.OK && p != nil {
					t.Errorf("R1: Inclusion of %d items, %d, %d, is %x, %d", len(l), n, i, p, e)
				}
				if p, e := history.Consistency(l, i, n); e != cons || e != api.OK && p != nil {
					t.Errorf("R1: Consistency of %d items, %d, %d, is %x, %d", len(l), i, n, p, e)
				}
				if h, e := history.Head(l, n, i, 1, i); e != api.OK && h != (api.Head{}) || e == api.OK && (root != api.OK || i < 1 || i > 5) {
					t.Errorf("R1: Head of %d items, %d, of region %d, is %+v, %d", len(l), n, i, h, e)
				}
			}
		}
	}
}

func TestVeryLongLogsAreRefused(t *testing.T) {
	l := make([]api.Item, 1<<16)
	for i := range l {
		l[i] = user(1, 1, 1+i)
	}
	wantRefused(t, l, 1, api.ErrHistoryForm)
	wantMay(t, l, user(1, 2, 1), api.ErrHistoryForm)
	wantFind(t, l, 1, 1<<16)
	wantFind(t, l, 2, 1)
}

func TestLongTextsAreRefused(t *testing.T) {
	x := text(1, 1, 1, strings.Repeat("x", 1<<24))
	wantRefused(t, []api.Item{x}, 1, api.ErrHistoryForm)
	wantMay(t, []api.Item{x}, user(1, 1, 2), api.ErrHistoryForm)
	wantMay(t, nil, x, api.ErrHistoryForm)
	wantFind(t, []api.Item{x}, 1, 1)
}

func TestTextsMayHaveAnyBytes(t *testing.T) {
	for c := range 256 {
		l := []api.Item{text(1, 1, 1, string([]byte{byte(c)})), text(1, 1, 2, strings.Repeat(string([]byte{byte(c)}), 200))}
		wantRoot(t, l, 2, rootOf(leavesOf(l)), api.OK)
		wantMay(t, l[:1], l[1], api.OK)
	}
}

// What is handed in stays, with the room behind it.
func TestLogsStay(t *testing.T) {
	logs := [][]api.Item{nil, {}, {{}}, users(1), made(3), made(20), made(2000), made(2001)}
	for _, l := range wrongLogs() {
		logs = append(logs, l)
	}
	for _, was := range logs {
		l, whole := roomy(was)
		before := slices.Clone(whole)
		for _, n := range []int{-1, 0, 1, len(l), len(l) + 1} {
			callAll(l, n)
			if !slices.Equal(whole, before) {
				t.Errorf("R2: a log of %d items is changed, or the room behind it", len(l))
			}
		}
	}
}

// A log that has room behind it is no longer than it is.
func TestLogsEndAtTheirEnd(t *testing.T) {
	l, _ := roomy(made(6))
	wantRefused(t, l, 7, api.ErrTreeSize)
	wantFind(t, l, 2, 77)
	wantMay(t, l, user(l[5].Epoch, 2, 76), api.OK)
	wantRoot(t, l, 6, rootOf(leavesOf(l)), api.OK)
	full := made(2100)[:2000]
	wantCheck(t, "a full log with room", full)
	wantMay(t, full, claim(900000000), api.ErrLimit)
}

// A log that is changed behind a call answers as it is then: nothing is kept.
func TestLogsAreNotKept(t *testing.T) {
	l := made(20)
	for i := range l {
		callAll(l, 20)
		l[i] = text(l[i].Epoch, 3, 900+i, "changed")
		wantCheck(t, "a changed log", l)
		wantFind(t, l, 3, 900+i)
		wantRoot(t, l, 20, rootOf(leavesOf(l)), api.OK)
		wantMay(t, l, user(l[19].Epoch, 3, 900+i), api.ErrHistoryOld)
		wantMay(t, l, user(l[19].Epoch, 3, 901+i), api.OK)
	}
}

func spoil(l []api.Digest) {
	l = l[:cap(l)]
	for i := range l {
		l[i] = rising(200)
	}
}

// A proof that came out is not changed by what is done to another one, nor changes it one that comes later.
func TestProofsAreNew(t *testing.T) {
	l := made(20)
	leaves := leavesOf(l)
	for n := range 21 {
		for i := range n {
			calls := []func() ([]api.Digest, api.Errno){
				func() ([]api.Digest, api.Errno) { return history.Inclusion(l, n, i) },
				func() ([]api.Digest, api.Errno) { return history.Consistency(l, i, n) },
			}
			for c, want := range [][]api.Digest{inclusionOf(leaves[:n], i), consistencyOf(leaves[:n], i, true)} {
				one, e := calls[c]()
				two, f := calls[c]()
				spoil(one)
				three, g := calls[c]()
				spoil(three)
				if !slices.Equal(two, want) || e != api.OK || f != api.OK || g != api.OK {
					t.Errorf("R2: proofs of %d, %d share their memory", n, i)
				}
				if four, _ := calls[c](); !slices.Equal(four, want) {
					t.Errorf("R2: a proof of %d, %d shares its memory with one that came ahead", n, i)
				}
			}
		}
	}
	if !slices.Equal(l, made(20)) {
		t.Errorf("R2: a proof shares its memory with the log")
	}
}

// What a call answers hangs on its arguments, not on the calls ahead of it.
func TestCallsAnswerTheSameAgain(t *testing.T) {
	l, other := made(20), users(33)
	leaves := leavesOf(l)
	for range 2 {
		for n := range 21 {
			callAll(other, n)
			wantRoot(t, l, n, rootOf(leaves[:n]), api.OK)
			callAll(nil, n)
			wantConsistency(t, l, n/2, n, consistencyOf(leaves[:n], n/2, true), api.OK)
			callAll([]api.Item{{}}, n)
			wantMay(t, l[:n], user(900000000, 1, 1), mayCome(l[:n], user(900000000, 1, 1)))
			callAll(made(3), n)
			wantFind(t, l, 1, n)
		}
	}
}

func TestCallsBesideOneAnother(t *testing.T) {
	l := made(40)
	leaves := leavesOf(l)
	var all sync.WaitGroup
	for range 8 {
		all.Go(func() {
			for n := range 41 {
				wantRoot(t, l, n, rootOf(leaves[:n]), api.OK)
				wantConsistency(t, l, n/2, n, consistencyOf(leaves[:n], n/2, true), api.OK)
				wantFind(t, l, 1, n)
				wantCheck(t, "beside others", l[:n])
			}
		})
	}
	all.Wait()
}
