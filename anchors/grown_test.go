package anchors_test

import (
	"fmt"
	"testing"

	"estreat/anchors"
	"estreat/api"
	"estreat/head"
	"estreat/history"
	"estreat/sha"
)

// headOf is the head of a region's log up to n, as the layers below tell and sign it.
func headOf(t *testing.T, l []api.Item, n, region, epoch int) api.Signed {
	t.Helper()
	h, e := history.Head(l, n, region, epoch, n)
	if e != api.OK {
		t.Fatalf("P11.3: Head up to %d is %d", n, e)
	}
	s, e := head.Sign(master, h, 1+n%3)
	if e != api.OK {
		t.Fatalf("P7.2: Sign of %+v is %d", h, e)
	}
	return s
}

func proofOf(t *testing.T, l []api.Item, m, n int) []api.Digest {
	t.Helper()
	p, e := history.Consistency(l, m, n)
	if e != api.OK {
		t.Fatalf("P11.3: Consistency from %d to %d is %d", m, n, e)
	}
	return p
}

// admit lays a head behind the log, if it is admitted.
func admit(t *testing.T, l []api.Item, s api.Signed, m int, p []api.Digest) []api.Item {
	t.Helper()
	wantAdmit(t, fmt.Sprintf("from %d to %d", m, s.Head.Size), l, s, m, p, api.OK)
	return append(l, anchor(1, s))
}

// Heads that grow by one and by more, also by none, in epochs that stay and that rise.
func TestHeadsThatGrowAreAdmitted(t *testing.T) {
	from := filled(70)
	for step := range 23 {
		var l []api.Item
		last, epoch := 0, 1
		for n := 0; n <= 70; n += max(step, 1) {
			for range 2 {
				l = admit(t, l, headOf(t, from, n, 2, epoch), last, proofOf(t, from, last, n))
				last = n
				epoch += step % 3
			}
		}
		// Each Size has the place of its first head.
		for size := -1; size <= 70; size++ {
			wantPlace(t, l, 2, size)
		}
		if i, ok := anchors.Place(l, 2, 0); i != 2 || !ok {
			t.Errorf("P13.1: the first head that is not of the empty log stands at %d, %v", i, ok)
		}
	}
}

// Each beginning of a log may be anchored, and each longer one behind it.
func TestAnyTwoHeadsOfOneLog(t *testing.T) {
	from := filled(33)
	for m := range 34 {
		l := admit(t, nil, headOf(t, from, m, 4, 2), 0, nil)
		for n := range 34 {
			s := headOf(t, from, n, 4, 2)
			if n < m {
				wantAdmit(t, "a head that falls", l, s, m, nil, api.ErrAnchorsBehind)
			} else {
				wantAdmit(t, "a head that grows", l, s, m, proofOf(t, from, m, n), api.OK)
			}
		}
	}
}

func TestHeadsOfAFullLogAreAdmitted(t *testing.T) {
	from := filled(2000)
	l := filled(3)
	last := 0
	for _, n := range []int{1, 2, 1023, 1024, 1025, 1500, 1999, 2000, 2000} {
		l = admit(t, l, headOf(t, from, n, 3, 1), last, proofOf(t, from, last, n))
		last = n
	}
}

// Regions grow beside one another in one log, and none is held against another one's heads.
func TestRegionsGrowBesideOneAnother(t *testing.T) {
	var logs [6][]api.Item
	for region := 1; region <= 5; region++ {
		for i := range 20 {
			logs[region] = append(logs[region], api.Item{Epoch: region, Entry: api.Entry{Kind: 1, Client: 1, Seq: i + 1}})
		}
	}
	var l []api.Item
	var last [6]int
	for i := range 100 {
		region := 1 + i*i%5
		n := min(last[region]+i%3, 20)
		l = admit(t, l, headOf(t, logs[region], n, region, 1+i/10), last[region], proofOf(t, logs[region], last[region], n))
		last[region] = n
		for other := 1; other <= 5; other++ {
			s, ok := anchors.Latest(l, other)
			if s.Head.Size != last[other] || ok != (s != api.Signed{}) {
				t.Errorf("P13.1: behind %d heads the latest of region %d is %+v, %v", i+1, other, s, ok)
			}
		}
	}
	for region := 1; region <= 5; region++ {
		for size := range 21 {
			wantPlace(t, l, region, size)
		}
	}
}

// Logs anchor one another: an anchor is an item of a log whose head is anchored in its turn.
func TestLogsAnchorOneAnother(t *testing.T) {
	logs := [3][]api.Item{}
	var last [3][3]int
	for i := range 60 {
		to, of := i%3, (i+1+i/3%2)%3
		logs[of] = append(logs[of], user(1, 1+i))
		n := len(logs[of])
		m := last[to][of]
		logs[to] = admit(t, logs[to], headOf(t, logs[of], n, of+1, 1), m, proofOf(t, logs[of], m, n))
		last[to][of] = n
	}
}

// What is admitted may come where its item's Epoch does not fall and there is room, and else not.
func TestWhatIsAdmittedMayCome(t *testing.T) {
	g := lineOf(2, 9)
	l := []api.Item{user(1, 1), anchor(4, g.signed(3, 7))}
	s, p := g.signed(9, 8), g.proof(3, 9)
	wantAdmit(t, "a head", l, s, 3, p, api.OK)
	for _, x := range []struct {
		epoch int
		want  api.Errno
	}{{0, api.ErrHistoryForm}, {1, api.ErrHistoryEpoch}, {3, api.ErrHistoryEpoch}, {4, api.OK}, {5, api.OK}, {900000000, api.OK}, {900000001, api.ErrHistoryForm}} {
		if e := history.May(l, anchor(x.epoch, s)); e != x.want {
			t.Errorf("P13.4: what is admitted may come in epoch %d by %d; want %d", x.epoch, e, x.want)
		}
	}
	for _, x := range []struct {
		items int
		want  api.Errno
	}{{0, api.OK}, {1998, api.OK}, {1999, api.OK}, {2000, api.ErrLimit}} {
		l := filled(x.items)
		wantAdmit(t, "a first head", l, s, 0, nil, api.OK)
		if e := history.May(l, anchor(1, s)); e != x.want {
			t.Errorf("P13.4: what is admitted may come behind %d items by %d; want %d", x.items, e, x.want)
		}
	}
}

// The root of no items is what sha.Empty tells, and history tells it too.
func TestTheFirstHeadIsOfNoItems(t *testing.T) {
	s := headOf(t, nil, 0, 1, 1)
	if s.Head.Root != sha.Empty() || s.Head.Root != empty {
		t.Errorf("P11.3: the root of no items is %x", s.Head.Root)
	}
	wantAdmit(t, "the head of no items", nil, s, 0, nil, api.OK)
}
