package anchors_test

import (
	"slices"
	"strings"
	"sync"
	"testing"

	"estreat/anchors"
	"estreat/api"
)

// roomy is l with room behind it, all of it strange things, and that whole.
func roomy[T any](l []T, strange T) (row, whole []T) {
	whole = slices.Concat(l, slices.Repeat([]T{strange}, 9))
	return whole[:len(l)], whole
}

func callAll(l []api.Item, s api.Signed, m int, proof []api.Digest) {
	for region := range 7 {
		anchors.Latest(l, region)
		anchors.Place(l, region, m)
	}
	anchors.Admit(master, l, s, m, proof)
	anchors.Admit(another, l, s, m, proof)
	anchors.Apart(master, s, s)
	anchors.Apart(master, s, api.Signed{})
}

func TestCallsEndAtAllArguments(t *testing.T) {
	g := lineOf(2, 9)
	numbers := append(farOff, 0, 1, 2, 3, 5, 6)
	logs := [][]api.Item{nil, {}, {{}}, filled(2), g.log(3, 1), {user(2, 1), user(1, 2)}, {loose(-1, -1, -1), loose(2, -5, -3)}}
	for _, l := range logs {
		for _, m := range numbers {
			for _, n := range numbers {
				wantLatest(t, l, n)
				wantPlace(t, l, m, n)
				s := signed(master, api.Head{Region: 2, Epoch: 1, Size: n, Root: rising(1)}, 1)
				for _, p := range [][]api.Digest{nil, {}, {empty}} {
					wantAdmit(t, "any size", l, s, m, p, admitted(master, l, s, m, p))
				}
			}
			s := signed(master, api.Head{Region: m, Epoch: m, Size: 3}, m)
			wantAdmit(t, "any number", l, s, m, nil, admitted(master, l, s, m, nil))
			wantApart(t, "any number", s, g.signed(3, 1), false)
		}
	}
}

func TestVeryLongLogs(t *testing.T) {
	g := lineOf(2, 9)
	l := make([]api.Item, 1<<16)
	for i := range l {
		l[i] = loose(1+i%5, 1, i)
	}
	wantAdmit(t, "a very long log", l, g.signed(9, 1), 0, nil, api.ErrAnchorsForm)
	wantLatest(t, l, 2)
	wantLatest(t, l, 6)
	wantPlace(t, l, 2, 65000)
	wantPlace(t, l, 6, 0)
}

func TestVeryLongProofs(t *testing.T) {
	g := lineOf(2, 9)
	long := slices.Repeat([]api.Digest{rising(1)}, 1<<18)
	for _, n := range []int{3, 4, 9} {
		wantAdmitBriefly(t, g.log(3, 1), g.signed(n, 1), 3, long, api.ErrAnchorsApart)
	}
	wantAdmitBriefly(t, g.log(0, 1), g.signed(9, 1), 0, long, api.ErrAnchorsApart)
	wantAdmitBriefly(t, g.log(3, 1), g.signed(9, 1), 4, long, api.ErrAnchorsBehind)
}

// wantAdmitBriefly tells nothing of the proof.
func wantAdmitBriefly(t *testing.T, l []api.Item, s api.Signed, m int, proof []api.Digest, want api.Errno) {
	t.Helper()
	if e := anchors.Admit(master, l, s, m, proof); e != want {
		t.Errorf("P13.2: Admit with %d digests is %d; want %d", len(proof), e, want)
	}
}

func TestLongTextsAreRefused(t *testing.T) {
	g := lineOf(2, 9)
	x := user(1, 1)
	x.Entry.Text = strings.Repeat("x", 1<<24)
	if e := anchors.Admit(master, []api.Item{x}, g.signed(9, 1), 0, nil); e != api.ErrAnchorsForm {
		t.Errorf("P13.2: Admit behind a very long text is %d", e)
	}
	if _, ok := anchors.Latest([]api.Item{x}, 2); ok {
		t.Errorf("P13.1: Latest has found a text")
	}
}

func TestTextsMayHaveAnyBytes(t *testing.T) {
	g := lineOf(2, 9)
	for c := range 256 {
		x := user(1, 1)
		x.Entry.Text = strings.Repeat(string([]byte{byte(c)}), 200)
		l := behind(g.log(3, 1), x)
		wantAdmit(t, "behind any text", l, g.signed(9, 1), 3, g.proof(3, 9), api.OK)
		wantLatest(t, l, 2)
	}
}

// What is handed in stays, with the room behind it.
func TestLogsAndProofsStay(t *testing.T) {
	g := lineOf(2, 20)
	strange := anchor(77, loose(2, 77, 77).Entry.Head)
	logs := [][]api.Item{nil, {}, {{}}, filled(3), filled(2000), g.log(3, 1), g.log(7, 1), g.log(9, 1)}
	for _, l := range wrongLogs() {
		logs = append(logs, l)
	}
	for _, was := range logs {
		for _, m := range []int{-1, 0, 3, 7, 9} {
			l, whole := roomy(was, strange)
			p, all := roomy(g.proof(max(m, 0), 20), rising(66))
			before, ahead := slices.Clone(whole), slices.Clone(all)
			callAll(l, g.signed(20, 1), m, p)
			callAll(l, g.signed(20, 1), m, p[:len(p)/2])
			callAll(l, g.signed(20, 1), m, all)
			if !slices.Equal(whole, before) {
				t.Errorf("R2: a log of %d items is changed, or the room behind it", len(l))
			}
			if !slices.Equal(all, ahead) {
				t.Errorf("R2: a proof of %d digests is changed, or the room behind it", len(p))
			}
		}
	}
}

// What has room behind it is no longer than it is.
func TestLogsAndProofsEndAtTheirEnd(t *testing.T) {
	g := lineOf(2, 20)
	l, _ := roomy(g.log(3, 1), anchor(1, g.signed(9, 1)))
	if s, ok := anchors.Latest(l, 2); s != g.signed(3, 1) || !ok {
		t.Errorf("P13.1: Latest has looked at the room behind a log: %+v, %v", s, ok)
	}
	if i, ok := anchors.Place(l, 2, 3); i != 0 || ok {
		t.Errorf("P13.1: Place has looked at the room behind a log: %d, %v", i, ok)
	}
	p := g.proof(3, 20)
	wantAdmit(t, "a log with room", l, g.signed(20, 1), 3, p, api.OK)
	row, _ := roomy(p, p[0])
	wantAdmit(t, "a proof with room", l, g.signed(20, 1), 3, row, api.OK)
	wantAdmit(t, "a proof with its rest in the room", l, g.signed(20, 1), 3, p[:len(p)-1], api.ErrAnchorsApart)
	full := behind(filled(2000), filled(50)...)[:2000]
	wantAdmit(t, "a full log with room", full, g.signed(20, 1), 0, nil, api.OK)
}

// What came out does not change with the log, and the log not with it.
func TestWhatComesOutIsNew(t *testing.T) {
	g := lineOf(2, 9)
	l := g.log(3, 1)
	one, _ := anchors.Latest(l, 2)
	two, _ := anchors.Latest(l, 2)
	one.Head.Root[0], one.Tag[0], one.Head.Size = 1, 1, 77
	l[3] = anchor(1, g.signed(5, 1))
	if two != g.signed(3, 1) {
		t.Errorf("R2: what Latest told is changed with the log: %+v", two)
	}
	if three, _ := anchors.Latest(l, 2); three != g.signed(5, 1) {
		t.Errorf("R2: what Latest told is changed in the log: %+v", three)
	}
}

// What is changed behind a call is told as it is then: nothing is kept.
func TestLogsAndProofsAreNotKept(t *testing.T) {
	g := lineOf(2, 30)
	l := g.log(0, 1)
	for size := 1; size < 30; size++ {
		callAll(l, g.signed(30, 1), size-1, g.proof(size-1, 30))
		l[3] = anchor(1, g.signed(size, 1))
		wantLatest(t, l, 2)
		wantPlace(t, l, 2, size-1)
		wantPlace(t, l, 2, size)
		p := g.proof(size, 30)
		wantAdmit(t, "a changed log", l, g.signed(30, 1), size, p, api.OK)
		p[0] = turned(p[0], size)
		wantAdmit(t, "a changed proof", l, g.signed(30, 1), size, p, api.ErrAnchorsApart)
	}
}

// What a call answers hangs on its arguments, not on the calls ahead of it.
func TestCallsAnswerTheSameAgain(t *testing.T) {
	g := lineOf(2, 9)
	f := g.forked(2)
	for range 2 {
		for _, other := range [][]api.Item{nil, {{}}, g.log(9, 9), f.log(3, 1), filled(2000), filled(2001)} {
			callAll(other, f.signed(9, 1), 3, f.proof(3, 9))
			wantAdmit(t, "again", g.log(3, 1), g.signed(9, 1), 3, g.proof(3, 9), api.OK)
			callAll(other, g.signed(9, 1), 0, nil)
			wantAdmit(t, "again", g.log(3, 1), f.signed(9, 1), 3, f.proof(3, 9), api.ErrAnchorsApart)
			wantAdmit(t, "again", nil, g.signed(9, 1), 3, g.proof(3, 9), api.ErrAnchorsBehind)
			wantApart(t, "again", g.signed(9, 1), f.signed(9, 1), true)
			wantApart(t, "again", g.signed(2, 1), f.signed(2, 1), false)
			wantLatest(t, g.log(3, 1), 2)
			wantPlace(t, g.log(3, 1), 2, 2)
		}
	}
}

func TestCallsBesideOneAnother(t *testing.T) {
	g := lineOf(2, 20)
	l, p := g.log(7, 1), g.proof(7, 20)
	var all sync.WaitGroup
	for range 8 {
		all.Go(func() {
			for i := range 40 {
				wantLatest(t, l, i%4)
				wantPlace(t, l, 2, i%9)
				if e := anchors.Admit(master, l, g.signed(20, 1), 7, p); e != api.OK {
					t.Errorf("R2: beside others Admit is %d", e)
				}
				size, fork := i%20, i%13
				if anchors.Apart(master, g.signed(size, 1), g.forked(fork).signed(size, 1)) != (size > fork) {
					t.Errorf("R2: beside others heads of size %d, forked at %d, are apart where they are not, or the other way round", size, fork)
				}
			}
		})
	}
	all.Wait()
}
