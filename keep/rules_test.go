package keep_test

import (
	"slices"
	"strings"
	"sync"
	"testing"

	"estreat/api"
	"estreat/keep"
)

var (
	strangeItem  = text(77, 2, 77, "strange")
	strangeClaim = api.Claim{Region: 77, Epoch: -77, Node: 77, Size: 77, Root: rising(77)}
)

// roomy is l with room behind it, all of it strange things, and that whole.
func roomy[T any](l []T, strange T) (row, whole []T) {
	whole = slices.Concat(l, slices.Repeat([]T{strange}, 9))
	return whole[:len(l)], whole
}

// spoil changes all that a list reaches.
func spoil[T any](l []T, strange T) {
	l = l[:cap(l)]
	for i := range l {
		l[i] = strange
	}
}

func spoilKept(k api.Kept) {
	spoil(k.Items, strangeItem)
	spoil(k.Claims, strangeClaim)
}

func callAll(k api.Kept, r api.Record) {
	keep.New()
	keep.Check(k)
	keep.Leader(k)
	keep.Fold(k, r)
	s, _ := keep.PutRecord(r)
	keep.GetRecord(s)
}

func TestCallsEndAtAllArguments(t *testing.T) {
	numbers := among(farOff, 0, 1, 2, 5, 9, 2000, 2001, 900000000)
	logs := [][]api.Item{nil, {}, {{}}, {user(1, 1, 1)}, {opening(5, 2)}, {user(5, 1, 1), user(1, 1, 1)}}
	for _, m := range numbers {
		for _, n := range numbers {
			x := api.Item{Epoch: n, Entry: api.Entry{Kind: api.EntryKind(m), Client: n, Seq: n}}
			c := api.Claim{Region: m, Epoch: n, Node: m, Size: n}
			for i, l := range logs {
				records := []api.Record{
					{Kind: api.RecordKind(m), Epoch: n}, {Kind: 3, Epoch: m, From: n, Items: l},
					itemRecord(x), claimRecord(c), {Kind: api.RecordKind(i), Epoch: m, From: n, Item: x, Items: l, Claim: c},
				}
				for _, k := range []api.Kept{{Epoch: m, Log: n, Items: l}, {Epoch: 9, Log: 5, Items: []api.Item{opening(5, 2)}}, {Epoch: 5, Log: 1, Items: []api.Item{x}, Claims: []api.Claim{c}}} {
					wantRightness(t, "any numbers", k)
					for _, r := range records {
						wantFolded(t, "any numbers", k, r)
					}
				}
				for _, r := range records {
					s, e := keep.PutRecord(r)
					if may := recordMayBe(r); may != (e == api.OK) || !may && (s != "" || e != api.ErrKeepForm) {
						t.Errorf("R1: PutRecord of any numbers is % x, %d: %s", cut(s), e, brief(r))
					}
				}
			}
		}
	}
}

func TestVeryLongLists(t *testing.T) {
	items := make([]api.Item, 1<<15)
	row := make([]api.Claim, 1<<15)
	for i := range items {
		items[i] = user(1, 1, 1+i)
		row[i] = api.Claim{Region: 1 + i>>14, Epoch: 1 + i, Node: 1}
	}
	wantLeader(t, "very many items", api.Kept{Epoch: 1, Log: 1, Items: items}, 0)
	wantFold(t, "very many items", api.Kept{Epoch: 1, Log: 1, Items: items}, epochRecord(1), api.ErrArg)
	wantFold(t, "very many items to adopt", keep.New(), adoptRecord(1, 0, items...), api.ErrKeepForm)
	if s, e := keep.PutRecord(adoptRecord(1, 0, items...)); s != "" || e != api.ErrKeepForm {
		t.Errorf("P15.3: PutRecord of very many items is % x, %d", cut(s), e)
	}
	// Of claims there is no most.
	k := api.Kept{Epoch: 1, Log: 1, Claims: row}
	wantLeader(t, "very many claims", k, 1)
	for _, r := range []api.Record{epochRecord(2), itemRecord(user(1, 1, 1)), adoptRecord(1, 0), claimRecord(row[1<<14]), claimRecord(claim(5, 1)), claimRecord(changed(row[9], func(c *api.Claim) { c.Node = 2 }))} {
		wantFolded(t, "very many claims", k, r)
	}
}

func TestLongTextsAreRefused(t *testing.T) {
	x := text(1, 1, 1, strings.Repeat("x", 1<<24))
	wantLeader(t, "a very long text", api.Kept{Epoch: 1, Log: 1, Items: []api.Item{x}}, 0)
	for _, r := range []api.Record{itemRecord(x), adoptRecord(1, 0, x), {Kind: 1, Epoch: 1, Item: x}} {
		wantFold(t, "a very long text", keep.New(), r, api.ErrKeepForm)
		if s, e := keep.PutRecord(r); s != "" || e != api.ErrKeepForm {
			t.Errorf("P15.3: PutRecord of a very long text is % x, %d", cut(s), e)
		}
	}
}

func TestReadingEndsWithManyBytes(t *testing.T) {
	right := wantLaid(t, adoptRecord(1, 0, user(1, 1, 1)))
	item := field(6, strings.Repeat("x", 65536))
	for _, s := range []string{
		strings.Repeat("\x00", 1<<24), strings.Repeat("\xff", 1<<24), strings.Repeat("\x01", 1<<24), strings.Repeat("\x06\x00\x00\x00", 1<<22), strings.Repeat("\x07\x00\x00\x00", 1<<22),
		right + strings.Repeat("\x06\x00\x00\x00", 1<<22), right + strings.Repeat(item, 200), strings.Repeat(item, 200), strings.Repeat(right, 1<<16),
	} {
		wantRefused(t, "many bytes", s)
	}
}

// What is handed in stays, with the room behind it.
func TestWhatIsHandedInStays(t *testing.T) {
	for name, was := range rightKepts() {
		for _, wasRecord := range slices.Concat(plainRecords(), strayRecords()[:3], []api.Record{
			adoptRecord(was.Epoch, 0, opened(9, was.Epoch)...), adoptRecord(900000000, 1, opening(900000000, 2)), adoptRecord(was.Epoch, 2000), itemRecord(user(was.Log, 2, 999999)), claimRecord(claim(3, 3)), {Kind: 1, Epoch: 1, Items: plain(3, 1, 1)},
		}) {
			k, r := was, wasRecord
			var items, more []api.Item
			var row []api.Claim
			k.Items, items = roomy(was.Items, strangeItem)
			k.Claims, row = roomy(was.Claims, strangeClaim)
			r.Items, more = roomy(wasRecord.Items, strangeItem)
			before, beforeRow, beforeMore := slices.Clone(items), slices.Clone(row), slices.Clone(more)
			callAll(k, r)
			if !slices.Equal(items, before) || !slices.Equal(row, beforeRow) || !slices.Equal(more, beforeMore) {
				t.Errorf("R2: what was handed in is changed, or the room behind it: %s; %s; %s", name, brief(was), brief(r))
			}
		}
	}
}

// What has room behind it is no longer than it is.
func TestListsEndAtTheirEnd(t *testing.T) {
	k := kept(20)
	k.Items, _ = roomy(k.Items, opening(9, 3))
	k.Claims, _ = roomy(k.Claims, strangeClaim)
	wantLeader(t, "lists with room", k, 2)
	l, _ := roomy([]api.Item{opening(9, 3)}, strangeItem)
	wantFold(t, "a record with room", k, adoptRecord(9, 20, l...), api.OK)
	wantFold(t, "a gap within the room", k, adoptRecord(9, 21, l...), api.ErrKeepGap)
	wantFold(t, "no item, with room that has one", k, adoptRecord(9, 20, l[:0]...), api.ErrKeepForm)
	wantLaid(t, adoptRecord(9, 20, l...))
	wantLaid(t, api.Record{Kind: 1, Epoch: 9, Items: l[:0]})
}

// someFolds are records that may be folded into what is right, of each Kind, also such that change nothing.
func someFolds(k api.Kept) []api.Record {
	n := len(k.Items)
	l := []api.Record{
		epochRecord(k.Epoch), epochRecord(900000000), itemRecord(user(k.Log, 3, 999999)), claimRecord(claim(5, 899999999)),
		adoptRecord(900000000, n, opening(900000000, 3)), adoptRecord(900000000, n/2, opening(900000000, 3), user(900000000, 1, 1)), adoptRecord(900000000, 0, opened(9, 900000000)...),
	}
	if k.Epoch == k.Log {
		l = append(l, adoptRecord(k.Epoch, n))
	}
	for _, c := range k.Claims {
		l = append(l, claimRecord(c))
	}
	return l
}

// What comes out shares nothing with what was handed in, nor with what comes out of another call.
func TestWhatIsFoldedIsNew(t *testing.T) {
	for _, was := range []api.Kept{keep.New(), first(1), first(20), kept(20), {Epoch: 5, Log: 5, Items: opened(9, 5), Claims: someClaims(3)}} {
		for _, r := range someFolds(was) {
			k := was
			k.Items, _ = roomy(was.Items, strangeItem)
			k.Claims, _ = roomy(was.Claims, strangeClaim)
			want, err := folded(was, r)
			want.Items, want.Claims = slices.Clone(want.Items), slices.Clone(want.Claims)
			record := r
			record.Items = slices.Clone(r.Items)
			one, e := keep.Fold(k, record)
			two, f := keep.Fold(k, record)
			if e != api.OK || f != api.OK || err != api.OK {
				t.Fatalf("P15.2: Fold is %d, %d; want %d: %s; %s", e, f, err, brief(k), brief(r))
			}
			spoilKept(one)
			if !sameKept(k, was) || !sameRecord(record, r) {
				t.Errorf("R2: what is folded shares memory with what was handed in: %s; %s", brief(was), brief(r))
			}
			if three, _ := keep.Fold(k, record); !sameKept(two, want) || !sameKept(three, want) {
				t.Errorf("R2: what is folded shares memory with what comes out elsewhere: %s; %s", brief(was), brief(r))
			}
			spoilKept(k)
			spoil(record.Items, strangeItem)
			if !sameKept(two, want) {
				t.Errorf("R2: what is folded is changed with what was handed in: %s; %s", brief(was), brief(r))
			}
		}
	}
}

// What comes out may be handed in again, and two that come of one do not meet.
func TestWhatIsFoldedGrowsApart(t *testing.T) {
	k, _ := keep.Fold(keep.New(), itemRecord(user(1, 1, 1)))
	k, _ = keep.Fold(k, itemRecord(user(1, 1, 2)))
	k, _ = keep.Fold(k, itemRecord(user(1, 1, 3)))
	one, _ := keep.Fold(k, itemRecord(user(1, 1, 4)))
	two, _ := keep.Fold(k, itemRecord(user(1, 2, 1)))
	three, _ := keep.Fold(k, adoptRecord(2, 1, opening(2, 2), user(2, 2, 9)))
	want := []api.Item{user(1, 1, 1), user(1, 1, 2), user(1, 1, 3)}
	if !slices.Equal(one.Items, behind(want, user(1, 1, 4))) || !slices.Equal(two.Items, behind(want, user(1, 2, 1))) || !slices.Equal(k.Items, want) {
		t.Errorf("R2: two that come of one are %s and %s", brief(one), brief(two))
	}
	if !slices.Equal(three.Items, []api.Item{user(1, 1, 1), opening(2, 2), user(2, 2, 9)}) {
		t.Errorf("R2: what was adopted is %s", brief(three))
	}
}

// What is adopted may be handed in twice: as what is kept, and as what comes behind.
func TestFoldOfWhatIsKeptItself(t *testing.T) {
	k := api.Kept{Epoch: 5, Log: 5, Items: opened(9, 5), Claims: someClaims(2)}
	for from := range 10 {
		for at := range 10 {
			r := adoptRecord(5, from, k.Items[at:]...)
			wantFolded(t, "what is kept itself", k, r)
		}
	}
	if !slices.Equal(k.Items, opened(9, 5)) {
		t.Errorf("R2: what is kept is changed by itself: %s", brief(k))
	}
}

func TestWhatIsReadIsNew(t *testing.T) {
	r := adoptRecord(4, 2, anchor(2), text(3, 2, 770, "ab"), opening(4, 1))
	s := wantLaid(t, r)
	one, _ := keep.GetRecord(s)
	two, _ := keep.GetRecord(s)
	spoil(one.Items, strangeItem)
	three, _ := keep.GetRecord(s)
	if !sameRecord(two, r) || !sameRecord(three, r) {
		t.Errorf("R2: what is read shares memory with what comes out elsewhere: %s, %s", brief(two), brief(three))
	}
	spoil(r.Items, strangeItem)
	if !sameRecord(two, adoptRecord(4, 2, anchor(2), text(3, 2, 770, "ab"), opening(4, 1))) {
		t.Errorf("R2: what is read is changed with what was laid: %s", brief(two))
	}
}

func TestNewIsNew(t *testing.T) {
	k := keep.New()
	k.Epoch, k.Log = 7, 7
	k.Items = append(k.Items, strangeItem)
	k.Claims = append(k.Claims, strangeClaim)
	if other := keep.New(); !sameKept(other, api.Kept{Epoch: 1, Log: 1}) {
		t.Errorf("R2: New is %s behind a change of another one", brief(other))
	}
}

// What is changed behind a call is told as it is then: nothing is kept from call to call.
func TestNothingIsKept(t *testing.T) {
	k := kept(20)
	r := adoptRecord(9, 20, plain(9, 9, 70000)...)
	for i := range k.Items {
		was := k.Items[i]
		callAll(k, r)
		k.Items[i] = claimed(was.Epoch, 9, 3)
		wantRightness(t, "a changed item", k)
		wantFolded(t, "a changed item", k, r)
		k.Items[i] = user(was.Epoch, 4, 1)
		wantLeader(t, "a wrong item", k, 0)
		k.Items[i] = was
		wantLeader(t, "the item that was there", k, 2)
	}
	for i := range r.Items {
		was := r.Items[i]
		callAll(k, r)
		r.Items[i] = opening(9, 3)
		wantFold(t, "a changed record", k, r, api.OK)
		wantLaid(t, r)
		r.Items[i] = was
		wantFold(t, "the record as it was", k, r, api.ErrKeepForm)
	}
	for i := range k.Claims {
		was := k.Claims[i]
		k.Claims[i].Node = 4
		wantLeader(t, "a wrong claim", k, 0)
		k.Claims[i] = was
		wantLeader(t, "the claim that was there", k, 2)
	}
}

// What a call answers hangs on its arguments, not on the calls ahead of it.
func TestCallsAnswerTheSameAgain(t *testing.T) {
	k := kept(9)
	for range 2 {
		for _, other := range []api.Kept{{}, keep.New(), first(3), kept(30), {Epoch: 9, Log: 5}} {
			for _, r := range slices.Concat(plainRecords(), []api.Record{{}, adoptRecord(9, 10), epochRecord(8)}) {
				callAll(other, r)
				wantLeader(t, "again", k, 2)
				wantLeader(t, "a wrong one again", api.Kept{Epoch: 9, Log: 5}, 0)
				for _, x := range plainRecords() {
					wantFold(t, "again", k, x, api.OK)
					callAll(other, r)
					wantLaid(t, x)
				}
				wantFold(t, "a gap again", k, adoptRecord(9, 10), api.ErrKeepGap)
			}
		}
	}
}

func TestCallsBesideOneAnother(t *testing.T) {
	k := kept(40)
	r := adoptRecord(9, 20, opened(9, 9)...)
	records := slices.Concat(plainRecords(), []api.Record{adoptRecord(9, 41), adoptRecord(9, 20, plain(3, 9, 1)...)})
	var all sync.WaitGroup
	for range 8 {
		all.Go(func() {
			for i := range 40 {
				wantRightness(t, "beside others", k)
				wantFolded(t, "beside others", k, r)
				wantFolded(t, "beside others", k, records[i%len(records)])
				s, e := keep.PutRecord(r)
				if got, f := keep.GetRecord(s); !sameRecord(got, r) || e != api.OK || f != api.OK {
					t.Errorf("R2: beside others a record comes back as %s, %d, %d", brief(got), e, f)
				}
			}
		})
	}
	all.Wait()
}
