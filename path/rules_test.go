package path_test

import (
	"slices"
	"strings"
	"sync"
	"testing"

	"estreat/api"
	"estreat/path"
)

// roomy is l with room behind it, all of it strange things, and that whole.
func roomy[T any](l []T, strange T) (row, whole []T) {
	whole = slices.Concat(l, slices.Repeat([]T{strange}, 9))
	return whole[:len(l)], whole
}

// roomyPath is p with room behind it and behind each of its proofs, and all of that: the steps, and their proofs.
func roomyPath(p []api.Step) (row, whole []api.Step, proofs [][]api.Digest) {
	row, whole = roomy(p, api.Step{Index: 3, Proof: []api.Digest{rising(1)}})
	for i := range row {
		one, all := roomy(row[i].Proof, rising(66))
		row[i].Proof = one
		proofs = append(proofs, all)
	}
	return row, whole, proofs
}

func callAll(l []api.Item, i int, s api.Signed, p []api.Step) {
	path.Make(l, i, s)
	path.Verify(master, p)
	path.Verify(another, p)
	path.Ends(p)
}

func TestCallsEndAtAllArguments(t *testing.T) {
	numbers := append(slices.Clone(farOff), 0, 1, 2, 3, 5, 6)
	logs := [][]api.Item{nil, {}, {{}}, filled(2), filled(5), {user(2, 1), user(1, 2)}}
	for _, m := range numbers {
		for _, n := range numbers {
			h := api.Head{Region: 2, Epoch: 1, Size: n, Root: empty}
			heads := []api.Signed{signed(master, h, 1), signed(master, api.Head{Region: n, Epoch: n, Size: n, Tick: n}, n)}
			for _, s := range heads {
				for _, l := range logs {
					_, want := made(l, m, s)
					wantMake(t, "any numbers", l, m, s, want)
				}
				x := api.Item{Epoch: n, Entry: api.Entry{Kind: api.EntryKind(m), Client: n, Seq: n}}
				for _, proof := range [][]api.Digest{nil, {}, {empty}} {
					for _, item := range []api.Item{x, user(1, 1), {}} {
						p := []api.Step{{Index: m, Item: item, Proof: proof, Head: s}}
						wantVerify(t, "any numbers", p, walked(master, p))
						p = append(chain(1, nil), p...)
						wantVerify(t, "any numbers behind a step", p, walked(master, p))
					}
				}
			}
		}
	}
}

func TestVeryLongLogsAndPaths(t *testing.T) {
	l := filled(5)
	long := slices.Repeat(l, 1<<14)
	wantMake(t, "a very long log", long, 0, signedOf(l, 5), api.ErrPathForm)
	wantMake(t, "a very long log", long, -1, signed(master, api.Head{Region: 1, Epoch: 1, Size: 2001}, 1), api.ErrPathForm)
	p := slices.Repeat(chain(5, nil), 1<<14)
	wantVerify(t, "a very long path", p, api.ErrPathForm)
}

func TestVeryLongProofs(t *testing.T) {
	for n := 1; n <= 3; n++ {
		for at := range n {
			p := chain(n, nil)
			p[at].Proof = append(slices.Clone(p[at].Proof), make([]api.Digest, 1<<18)...)
			if e := path.Verify(master, p); e != api.ErrCheckForm {
				t.Errorf("P14.2: Verify with %d digests is %d", len(p[at].Proof), e)
			}
		}
	}
}

func TestLongTextsAreRefused(t *testing.T) {
	x := user(1, 1)
	x.Entry.Text = strings.Repeat("x", 1<<24)
	s := signedOf(filled(1), 1)
	if _, e := path.Make([]api.Item{x}, 0, s); e != api.ErrPathForm {
		t.Errorf("P14.1: Make of a very long text is %d", e)
	}
	if e := path.Verify(master, []api.Step{{Item: x, Head: s}}); e != api.ErrPathForm {
		t.Errorf("P14.2: Verify of a very long text is %d", e)
	}
}

func TestTextsMayHaveAnyBytes(t *testing.T) {
	for c := range 256 {
		for _, n := range []int{0, 1, 200} {
			x := user(1, 1)
			x.Entry.Text = strings.Repeat(string([]byte{byte(c)}), n)
			l := behind(filled(3), x, claim(1))
			wantMake(t, "any text", l, 3, signedOf(l, 5), api.OK)
			wantVerify(t, "any text", []api.Step{stepOf(l, 3, 5)}, api.OK)
		}
	}
}

// What is handed in stays, with the room behind it.
func TestLogsAndPathsStay(t *testing.T) {
	logs := [][]api.Item{nil, {}, {{}}, filled(3), filled(2000)}
	for _, l := range wrongLogs() {
		logs = append(logs, l)
	}
	for _, was := range logs {
		l, whole := roomy(was, anchor(77, strange))
		before := slices.Clone(whole)
		for size := range min(len(l), 4) + 1 {
			for _, i := range []int{-1, 0, size - 1, size} {
				callAll(l, i, signedOf(l, size), nil)
			}
		}
		if !slices.Equal(whole, before) {
			t.Errorf("R2: a log of %d items is changed, or the room behind it", len(l))
		}
	}
	for n := range 7 {
		for at := range n {
			for _, b := range allBends() {
				p, whole, proofs := roomyPath(alone(n, at, b))
				before := slices.Clone(whole)
				var ahead [][]api.Digest
				for _, proof := range proofs {
					ahead = append(ahead, slices.Clone(proof))
				}
				callAll(nil, 0, strange, p)
				if !slices.EqualFunc(whole, before, same) {
					t.Errorf("R2: a path of %d steps is changed, or the room behind it", n)
				}
				if !slices.EqualFunc(proofs, ahead, slices.Equal) {
					t.Errorf("R2: a proof of a path of %d steps is changed, or the room behind it", n)
				}
			}
		}
	}
}

// What has room behind it is no longer than it is.
func TestLogsAndPathsEndAtTheirEnd(t *testing.T) {
	l := filled(6)
	wantMake(t, "a log with room", l[:4], 0, signedOf(l, 5), api.ErrPathForm)
	wantMake(t, "a log with room", l[:5], 4, signedOf(l, 5), api.OK)
	wantMake(t, "a full log with room", filled(2005)[:2000], 5, signedOf(l, 6), api.OK)
	p := chain(7, nil)
	wantVerify(t, "no step, with room", p[:0], api.ErrPathForm)
	wantVerify(t, "5 steps, with room", p[:5], api.OK)
	wantVerify(t, "6 steps, with room", p[:6], api.ErrPathForm)
	short := p[0]
	short.Proof = short.Proof[:len(short.Proof)-1]
	wantVerify(t, "a proof with its rest in the room", []api.Step{short}, api.ErrCheckForm)
}

// A proof that comes out shares its memory with no other one, nor with the log: not even the room behind it.
func TestWhatIsMadeIsNew(t *testing.T) {
	l := filled(21)
	s := signedOf(l, 21)
	want := make([]api.Step, 21)
	steps := make([]api.Step, 0, 42)
	for i := range l {
		want[i], _ = made(l, i, s)
		for range 2 {
			step, e := path.Make(l, i, s)
			if e != api.OK {
				t.Fatalf("P14.1: Make of %d is %d", i, e)
			}
			steps = append(steps, step)
		}
	}
	for i, step := range steps {
		if !same(step, want[i/2]) {
			t.Errorf("R2: what was made of %d is changed with what was made of others", i/2)
		}
		room := step.Proof[:cap(step.Proof)]
		for k := range room {
			room[k] = rising(200)
		}
	}
	for i := range l {
		if step, e := path.Make(l, i, s); e != api.OK || !same(step, want[i]) {
			t.Errorf("R2: behind a change of what was made of %d, it is made as %s, %d", i, brief(step), e)
		}
	}
	if !slices.Equal(l, filled(21)) {
		t.Errorf("R2: a log is changed with what was made of it")
	}
}

// What came out stays as it is when the log or the path is changed.
func TestWhatComesOutStays(t *testing.T) {
	l := filled(9)
	s := signedOf(l, 9)
	step, _ := path.Make(l, 4, s)
	want, _ := made(filled(9), 4, s)
	for i := range l {
		l[i] = user(5, 5)
	}
	if !same(step, want) {
		t.Errorf("R2: what was made is changed with the log: %s", brief(step))
	}
	p := chain(3, nil)
	x, last, _ := path.Ends(p)
	p[0].Item, p[2].Head = user(5, 5), strange
	if x != user(2, 90) || last != chain(3, nil)[2].Head {
		t.Errorf("R2: the ends are changed with the path: %+v, %+v", x, last)
	}
}

// What is changed behind a call is told as it is then: nothing is kept.
func TestLogsAndPathsAreNotKept(t *testing.T) {
	l := filled(8)
	p := chain(3, nil)
	for k := range 8 {
		s := signedOf(l, 8)
		wantMake(t, "a log", l, k, s, api.OK)
		l[k] = user(1, 300+k)
		wantMake(t, "a changed log, the head ahead", l, k, s, api.ErrPathForm)
		wantMake(t, "a changed log", l, k, signedOf(l, 8), api.OK)
		wantVerify(t, "a path", p, api.OK)
		at := k % 3
		was := p[at].Proof[0]
		p[at].Proof[0] = turned(was, k)
		wantVerify(t, "a changed proof", p, api.ErrCheckRoot)
		p[at].Proof[0] = was
	}
}

// What a call answers hangs on its arguments, not on the calls ahead of it.
func TestCallsAnswerTheSameAgain(t *testing.T) {
	l := filled(6)
	right, wrong := chain(3, nil), alone(3, 1, few()[proofRoot])
	for range 2 {
		for _, other := range [][]api.Step{nil, right[:1], right[1:], wrong, chain(5, nil), chain(6, nil), {{}}} {
			callAll(l, 7, signedOf(l, 5), other)
			wantVerify(t, "again", right, api.OK)
			callAll(nil, 0, strange, other)
			wantVerify(t, "again", wrong, api.ErrCheckRoot)
			wantMake(t, "again", l, 3, signedOf(l, 5), api.OK)
			wantMake(t, "again", l, 5, signedOf(l, 5), api.ErrPathNone)
			wantMake(t, "again", l[:4], 3, signedOf(l, 5), api.ErrPathForm)
		}
	}
}

func TestCallsBesideOneAnother(t *testing.T) {
	l := filled(20)
	s := signedOf(l, 18)
	p, wrong := chain(4, nil), alone(4, 2, few()[noAnchor])
	var all sync.WaitGroup
	for range 8 {
		all.Go(func() {
			for i := range 40 {
				want, f := made(l, i%20, s)
				if step, e := path.Make(l, i%20, s); e != f || !same(step, want) {
					t.Errorf("R2: beside others Make is %s, %d", brief(step), e)
				}
				if e := path.Verify(master, p); e != api.OK {
					t.Errorf("R2: beside others Verify is %d", e)
				}
				if e := path.Verify(master, wrong); e != api.ErrPathForm {
					t.Errorf("R2: beside others Verify of a wrong path is %d", e)
				}
				wantEnds(t, "beside others", p[:i%5])
			}
		})
	}
	all.Wait()
}
