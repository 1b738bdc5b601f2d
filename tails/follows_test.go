package tails_test

import (
	"math/rand"
	"slices"
	"testing"

	"estreat/api"
	"estreat/keep"
	"estreat/tails"
)

// common is what some tail has at a place, whose Log is at least an epoch, and every one of these, if it has so many items; and whether all of greater Logs have so many.
func common(l []api.Tail, epoch, place int) (x api.Item, ok, reached bool) {
	reached = true
	for _, t := range l {
		if t.Log < epoch {
			continue
		}
		if place >= len(t.Items) {
			reached = reached && t.Log == epoch
			continue
		}
		if ok && t.Items[place] != x {
			return api.Item{}, false, false
		}
		x, ok = t.Items[place], true
	}
	return x, ok, ok && reached
}

// wantCommon holds what is chosen against what tails have in common. A tail of a greater Log may be too short to have it: then it can't, if it is chosen.
func wantCommon(t *testing.T, l []api.Tail) (held int) {
	t.Helper()
	best, _, ok := tails.Choose(l)
	if !ok {
		return 0
	}
	for _, of := range l {
		for _, epoch := range []int{of.Log - 1, of.Log, of.Log + 1} {
			for place := range of.Items {
				x, ok, reached := common(l, epoch, place)
				there := place < len(best.Items)
				if reached && !there {
					t.Errorf("P16.4: what is chosen has no item at %d: %s; of %s", place, brief(best), brief(l))
				}
				if ok && there && best.Items[place] != x {
					t.Errorf("P16.4: what is chosen has another item at %d: %s; of %s", place, brief(best), brief(l))
				}
				if reached {
					held++
				}
			}
		}
	}
	return held
}

// Three tails, each of one of three logs that part at places of their own.
func TestWhatTailsHaveInCommonIsChosen(t *testing.T) {
	held := 0
	for seed := range 3000 {
		m := rand.New(rand.NewSource(int64(seed)))
		trunk := plain(12, 1, 1)
		var l []api.Tail
		for range 2 + m.Intn(3) {
			log, from := 1+m.Intn(3), m.Intn(12)
			items := slices.Clone(trunk[:from])
			for i := range m.Intn(5) {
				items = append(items, user(1, log, 500+from+i))
			}
			l = append(l, api.Tail{Node: 1 + m.Intn(3), Log: log, Commit: m.Intn(9), Items: items})
		}
		held += wantCommon(t, l)
		wantChoose(t, l)
	}
	if held < 3000 {
		t.Errorf("the rows are of no use: only %d items are in common", held)
	}
}

// member is a node of a region that is played.
type member struct {
	kept   api.Kept
	commit int
}

// play is a region of three nodes, with what of its log was ever committed.
type play struct {
	*testing.T
	*rand.Rand
	members   [4]member
	committed []api.Item
	seq       int
	opened    int
}

func (p *play) fold(node int, r api.Record) {
	k, e := keep.Fold(p.members[node].kept, r)
	if e != api.OK {
		p.Fatalf("P16.4: a node can't keep %s: %d", brief(r), e)
	}
	p.members[node].kept = k
}

func (p *play) tail(node int) api.Tail {
	x := p.members[node]
	return api.Tail{Node: node, Log: x.kept.Log, Commit: x.commit, Items: x.kept.Items}
}

func (p *play) isPrimary(node int) bool {
	k := p.members[node].kept
	return k.Log == k.Epoch && keep.Leader(k) == node
}

func (p *play) leads(l, beginning []api.Item) bool {
	return len(l) >= len(beginning) && slices.Equal(l[:len(beginning)], beginning)
}

// open is a new epoch's: of the node's own tail and of at least one other one.
func (p *play) open(node int) {
	epoch := 0
	for _, x := range p.members {
		epoch = max(epoch, x.kept.Epoch+1)
	}
	told := []int{node, 1 + (node+p.Intn(2))%3}
	if p.Intn(3) == 0 {
		told = []int{1, 2, 3}
	}
	var l []api.Tail
	for _, n := range told {
		p.fold(n, api.Record{Kind: api.RecordEpoch, Epoch: epoch})
		l = tails.Add(l, p.tail(n))
	}
	best, commit, ok := tails.Choose(l)
	if !ok || !p.leads(best.Items, p.committed) || commit > len(p.committed) {
		p.Fatalf("P16.4: what is chosen is %s; %d, %v; %d items were committed", brief(best), commit, ok, len(p.committed))
	}
	c, e := tails.Claim(1, epoch, node, best)
	if e != api.OK {
		p.Fatalf("P16.3: Claim of what is chosen is %d: %s", e, brief(best))
	}
	from := p.members[node].commit
	p.fold(node, api.Record{Kind: api.RecordAdopt, Epoch: epoch, From: from, Items: tails.Open(best, c)[from:]})
	if !p.isPrimary(node) || tails.Check(p.tail(node)) != api.OK {
		p.Fatalf("P16.4: who opens an epoch is not its primary: %s", brief(p.tail(node)))
	}
	p.members[node].commit = commit
	p.opened++
}

// ship brings a primary's log to another node, as far as some number.
func (p *play) ship(from, to int) {
	a, b := p.members[from].kept, p.members[to].kept
	if from == to || !p.isPrimary(from) || b.Epoch > a.Epoch {
		return
	}
	if b.Log != a.Epoch {
		p.fold(to, api.Record{Kind: api.RecordAdopt, Epoch: a.Epoch, Items: a.Items})
	} else {
		for _, x := range a.Items[len(b.Items) : len(b.Items)+p.Intn(len(a.Items)-len(b.Items)+1)] {
			p.fold(to, api.Record{Kind: api.RecordItem, Item: x})
		}
	}
	there := p.members[to].kept.Items
	if !p.leads(there, p.committed) && !p.leads(p.committed, there) {
		p.Fatalf("P16.4: what two nodes have is %s; another %s was committed", brief(there), brief(p.committed))
	}
	if len(there) > len(p.committed) {
		p.committed = there
	}
	p.members[from].commit = max(p.members[from].commit, len(there))
	p.members[to].commit = max(p.members[to].commit, min(p.members[from].commit, len(there))*p.Intn(2))
}

func (p *play) lay(node int) {
	if p.isPrimary(node) {
		p.seq++
		p.fold(node, api.Record{Kind: api.RecordItem, Item: user(p.members[node].kept.Epoch, 1, p.seq)})
	}
}

// A region's nodes from epoch to epoch: what two of them had of one log is in each that opens one later.
func TestWhatIsCommittedStays(t *testing.T) {
	for seed := range 150 {
		p := &play{T: t, Rand: rand.New(rand.NewSource(int64(seed)))}
		for i := range p.members {
			p.members[i].kept = keep.New()
		}
		for range 150 {
			node := 1 + p.Intn(3)
			switch p.Intn(8) {
			case 0:
				p.open(node)
			case 1, 2, 3:
				p.lay(node)
			default:
				p.ship(node, 1+p.Intn(3))
			}
		}
		if p.opened < 5 || len(p.committed) < 5 {
			t.Errorf("the play %d is of no use: %d epochs, %d items committed", seed, p.opened, len(p.committed))
		}
	}
}

// wantKept holds what Open makes against what can be kept.
func wantKept(t *testing.T, name string, x api.Tail, c api.Claim) {
	t.Helper()
	l := tails.Open(x, c)
	k := api.Kept{Epoch: c.Epoch, Log: c.Epoch, Items: l}
	if keep.Check(k) != api.OK || keep.Leader(k) != c.Node {
		t.Errorf("P16.4: what Open makes of %s can't be kept: leader %d; of %s; %s", name, keep.Leader(k), brief(x), short(c))
	}
	if next := (api.Tail{Node: c.Node, Log: c.Epoch, Items: l, Commit: x.Commit}); tails.Check(next) != api.OK {
		t.Errorf("P16.4: what Open makes of %s is no tail's: %s", name, brief(next))
	}
	was := api.Kept{Epoch: c.Epoch, Log: x.Log, Items: x.Items}
	got, e := keep.Fold(was, api.Record{Kind: api.RecordAdopt, Epoch: c.Epoch, From: x.Commit, Items: l[x.Commit:]})
	if e != api.OK || got.Log != c.Epoch || !slices.Equal(got.Items, l) {
		t.Errorf("P16.4: what Open makes of %s can't be adopted: %d, %s", name, e, brief(x))
	}
}

func TestWhatIsOpenedCanBeKept(t *testing.T) {
	for name, x := range rightTails() {
		if x.Log == 900000000 || len(x.Items) == 2000 {
			continue
		}
		for _, epoch := range []int{x.Log + 1, x.Log + 2, 900000000} {
			for node := 1; node <= 3; node++ {
				for region := 1; region <= 5; region++ {
					c, e := tails.Claim(region, epoch, node, x)
					if e != api.OK {
						t.Fatalf("P16.3: Claim of %s is %d", name, e)
					}
					wantKept(t, name, x, c)
				}
			}
		}
		// It need not be the claim of that tail.
		wantKept(t, name, x, api.Claim{Region: 4, Epoch: x.Log + 1, Node: 3, Size: 100000, Root: rising(5)})
	}
}

// A log that is full has no room for what opens an epoch: the words bound what is kept, not what is opened.
func TestWhatIsOpenedOfAFullLog(t *testing.T) {
	for _, log := range []int{1, 5} {
		x := tail(1, log, 2000, 0)
		c, e := tails.Claim(1, 9, 2, x)
		l := tails.Open(x, c)
		if e != api.OK || c.Size != 2000 || len(l) != 2001 {
			t.Errorf("P16.3: a full log makes %s, %d; %d items", short(c), e, len(l))
		}
		if keep.Check(api.Kept{Epoch: 9, Log: 9, Items: l}) != api.ErrArg {
			t.Errorf("P16.4: 2001 items can be kept")
		}
	}
}
