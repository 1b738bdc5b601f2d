package keep_test

import (
	"fmt"
	"slices"
	"testing"

	"estreat/api"
	"estreat/keep"
)

// wantLeader holds Check and Leader against a leader that is told, and that against the words: 0 is of what is not right.
func wantLeader(t *testing.T, name string, k api.Kept, want int) {
	t.Helper()
	if model := leaderOf(k); model != want {
		t.Fatalf("%s is meant to have the leader %d, but by the words it is %d: %s", name, want, model, brief(k))
	}
	wantRightness(t, name, k)
}

// wantRightness holds Check and Leader against the words.
func wantRightness(t *testing.T, name string, k api.Kept) {
	t.Helper()
	want, err := leaderOf(k), api.OK
	if want == 0 {
		err = api.ErrArg
	}
	if e := keep.Check(k); e != err {
		t.Errorf("P15.1: Check of %s is %d; want %d: %s", name, e, err, brief(k))
	}
	if n := keep.Leader(k); n != want {
		t.Errorf("P15.1: Leader of %s is %d; want %d: %s", name, n, want, brief(k))
	}
}

func TestNew(t *testing.T) {
	k := keep.New()
	if k.Epoch != 1 || k.Log != 1 || len(k.Items) != 0 || len(k.Claims) != 0 {
		t.Errorf("P15.1: New is %s", brief(k))
	}
	wantLeader(t, "New", k, 1)
}

func TestWhatIsRight(t *testing.T) {
	for name, k := range rightKepts() {
		if leaderOf(k) == 0 {
			t.Fatalf("%s is meant to be right: %s", name, brief(k))
		}
		wantRightness(t, name, k)
	}
}

func TestWhatIsNotRight(t *testing.T) {
	for name, k := range wrongKepts() {
		wantLeader(t, name, k, 0)
	}
}

func TestEpochsAndLogs(t *testing.T) {
	numbers := among(farOff, 0, 1, 2, 3, 899999999, 900000000)
	for _, epoch := range numbers {
		for _, log := range numbers {
			name := fmt.Sprintf("Epoch %d, Log %d", epoch, log)
			isFirst := log == 1 && epoch >= 1 && epoch <= 900000000
			is := log >= 1 && log <= epoch && epoch <= 900000000
			none := api.Kept{Epoch: epoch, Log: log}
			k := api.Kept{Epoch: epoch, Log: log, Items: []api.Item{opening(log, 3)}}
			switch {
			case isFirst:
				wantLeader(t, name+", no item", none, 1)
				wantLeader(t, name+", a claim", k, 1)
			case is:
				wantLeader(t, name+", no item", none, 0)
				wantLeader(t, name+", a claim", k, 3)
			default:
				wantLeader(t, name+", no item", none, 0)
				wantLeader(t, name+", a claim", k, 0)
			}
		}
	}
}

// An item's Epoch is held against Log, not against what was promised.
func TestItemsAboveLog(t *testing.T) {
	for _, log := range []int{1, 2, 5, 255, 256, 899999999} {
		leader := 2
		if log == 1 {
			leader = 1
		}
		l := []api.Item{opening(log, 2), user(log, 1, 1), anchor(log)}
		for _, epoch := range []int{log, log + 1, 900000000} {
			wantLeader(t, "items of Log", api.Kept{Epoch: epoch, Log: log, Items: l}, leader)
			for _, x := range []api.Item{user(log+1, 1, 2), anchor(log + 1), opening(log+1, 3), claimed(log+1, log, 3), user(900000000, 1, 2)} {
				wantLeader(t, "an item above Log", api.Kept{Epoch: epoch, Log: log, Items: behind(l, x)}, 0)
				wantLeader(t, "only an item above Log", api.Kept{Epoch: epoch, Log: log, Items: []api.Item{x}}, 0)
				wantLeader(t, "two items above Log", api.Kept{Epoch: epoch, Log: log, Items: behind(l, x, x)}, 0)
			}
		}
	}
}

func TestItemsThatAreNotRight(t *testing.T) {
	l := opened(9, 5)
	for i, x := range wrongItems() {
		for at := range 10 {
			wantLeader(t, fmt.Sprintf("the wrong item %d at %d", i, at), api.Kept{Epoch: 900000000, Log: 5, Items: slices.Insert(slices.Clone(l), at, x)}, 0)
		}
		wantLeader(t, fmt.Sprintf("the wrong item %d alone", i), api.Kept{Epoch: 900000000, Log: 1, Items: []api.Item{x}}, 0)
	}
}

func TestHowManyItems(t *testing.T) {
	for _, n := range []int{1, 2, 1999, 2000} {
		wantLeader(t, "a long log", api.Kept{Epoch: 1, Log: 1, Items: plain(n, 1, 1)}, 1)
		wantLeader(t, "a long log that was opened", api.Kept{Epoch: 5, Log: 5, Items: opened(n, 5)}, 2)
	}
	for _, n := range []int{2001, 2002, 4000} {
		wantLeader(t, "a log that is too long", api.Kept{Epoch: 1, Log: 1, Items: plain(n, 1, 1)}, 0)
		wantLeader(t, "a log that was opened, and is too long", api.Kept{Epoch: 5, Log: 5, Items: opened(n, 5)}, 0)
	}
}

func TestClaimsThatAreNotRight(t *testing.T) {
	for name, l := range wrongRows() {
		wantLeader(t, name, api.Kept{Epoch: 1, Log: 1, Claims: l}, 0)
		wantLeader(t, name, api.Kept{Epoch: 5, Log: 5, Items: opened(9, 5), Claims: l}, 0)
	}
	// A claim that is kept plays no part in who leads, and its Epoch none in whether Epoch and Log are right.
	for _, c := range []api.Claim{claim(1, 5), claim(1, 900000000), claim(5, 1)} {
		wantLeader(t, "a claim", api.Kept{Epoch: 1, Log: 1, Claims: []api.Claim{c}}, 1)
		wantLeader(t, "a claim, no leader", api.Kept{Epoch: 5, Log: 5, Claims: []api.Claim{c}}, 0)
		wantLeader(t, "a claim", api.Kept{Epoch: 5, Log: 5, Items: opened(9, 5), Claims: []api.Claim{c}}, 2)
	}
}

// The table of leaders: items of a log of Log 5, and who leads.
func TestLeaders(t *testing.T) {
	for _, x := range []struct {
		name  string
		items []api.Item
		want  int
	}{
		{"no item", nil, 0},
		{"no claim", []api.Item{user(1, 1, 1), anchor(5), user(5, 1, 2)}, 0},
		{"node 1", []api.Item{opening(5, 1)}, 1},
		{"node 2", []api.Item{opening(5, 2)}, 2},
		{"node 3", []api.Item{opening(5, 3)}, 3},
		{"a claim of the epoch ahead", []api.Item{claimed(5, 4, 2)}, 0},
		{"a claim of the next epoch", []api.Item{claimed(5, 6, 2)}, 0},
		{"a claim of epoch 1", []api.Item{claimed(5, 1, 2)}, 0},
		{"a claim of the last epoch", []api.Item{claimed(5, 900000000, 2)}, 0},
		{"an item of the epoch ahead", []api.Item{claimed(4, 5, 2)}, 0},
		{"an item of epoch 1", []api.Item{claimed(1, 5, 2)}, 0},
		{"the log of the epoch ahead", []api.Item{opening(4, 2)}, 0},
		{"the logs of all epochs ahead", []api.Item{opening(1, 2), opening(2, 3), opening(3, 1), opening(4, 2)}, 0},
		{"two claims", []api.Item{opening(5, 2), opening(5, 3)}, 2},
		{"two claims, the other way", []api.Item{opening(5, 3), opening(5, 2)}, 3},
		{"three claims", []api.Item{opening(5, 2), opening(5, 1), opening(5, 2)}, 2},
		{"claims of others ahead", []api.Item{opening(3, 1), claimed(4, 5, 1), claimed(5, 4, 1), claimed(5, 6, 1), opening(5, 3), opening(5, 2)}, 3},
		{"a claim behind others", []api.Item{user(1, 1, 1), anchor(4), user(5, 1, 2), anchor(5), opening(5, 2), user(5, 1, 3)}, 2},
	} {
		for _, epoch := range []int{5, 6, 900000000} {
			wantLeader(t, x.name, api.Kept{Epoch: epoch, Log: 5, Items: x.items}, x.want)
		}
	}
}

// Of epoch 1, whatever lies there, node 1 leads.
func TestLeadersOfEpoch1(t *testing.T) {
	for _, l := range [][]api.Item{nil, {user(1, 1, 1)}, {opening(1, 2)}, {opening(1, 3), opening(1, 2)}, {claimed(1, 5, 3)}, plain(20, 1, 1)} {
		for _, epoch := range []int{1, 2, 5, 900000000} {
			wantLeader(t, "of epoch 1", api.Kept{Epoch: epoch, Log: 1, Items: l}, 1)
		}
	}
}

// The region of a claim plays no part, nor its Size and Root: what is kept has none of these to hold them against.
func TestLeadersByAnyRightClaim(t *testing.T) {
	for region := 1; region <= 5; region++ {
		for _, size := range []int{0, 1, 100000} {
			x := opening(5, 3)
			x.Entry.Claim.Region, x.Entry.Claim.Size, x.Entry.Claim.Root = region, size, rising(region*size)
			wantLeader(t, "of any region", api.Kept{Epoch: 5, Log: 5, Items: []api.Item{x}}, 3)
		}
	}
}

// A claim may open a log at each place of it.
func TestLeadersAtEachPlace(t *testing.T) {
	for n := range 12 {
		for at := range n + 1 {
			l := slices.Insert(plain(n, 5, 1), at, opening(5, 3))
			wantLeader(t, "at each place", api.Kept{Epoch: 7, Log: 5, Items: l}, 3)
			l = behind(l, opening(5, 2))
			wantLeader(t, "at each place, and another one", api.Kept{Epoch: 7, Log: 5, Items: l}, 3)
		}
	}
	for _, at := range []int{0, 1, 999, 1999} {
		l := slices.Insert(plain(1999, 5, 1), at, opening(5, 3))
		wantLeader(t, "at a place of a long log", api.Kept{Epoch: 7, Log: 5, Items: l}, 3)
	}
}

// smallItems are those of which all small logs are made.
func smallItems() []api.Item {
	return []api.Item{
		user(1, 1, 1), user(2, 2, 1), anchor(3), opening(1, 3), opening(2, 2), opening(2, 3), opening(3, 1),
		claimed(1, 2, 3), claimed(2, 3, 1), claimed(2, 1, 1), claimed(3, 2, 2), {}, user(0, 1, 1),
	}
}

// smallLogs are all logs of so many small items.
func smallLogs(n int) [][]api.Item {
	if n == 0 {
		return [][]api.Item{nil}
	}
	var out [][]api.Item
	for _, l := range smallLogs(n - 1) {
		for _, x := range smallItems() {
			out = append(out, behind(l, x))
		}
	}
	return out
}

func TestAllSmallLogs(t *testing.T) {
	for n := range 4 {
		for _, l := range smallLogs(n) {
			for epoch := range 4 {
				for log := range 4 {
					wantRightness(t, "a small log", api.Kept{Epoch: epoch, Log: log, Items: l})
				}
			}
		}
	}
}
