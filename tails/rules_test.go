package tails_test

import (
	"slices"
	"strings"
	"sync"
	"testing"

	"estreat/api"
	"estreat/tails"
)

var strangeItem = text(77, 2, 77, "strange")

func strangeTail() api.Tail { return loose(77, 77, 7, 77, 77) }

// roomy is l with room behind it, all of it strange things, and that whole.
func roomy[T any](l []T, strange T) (row, whole []T) {
	whole = slices.Concat(l, slices.Repeat([]T{strange}, 9))
	return whole[:len(l)], whole
}

// roomyTail is t with room behind its Items.
func roomyTail(t api.Tail) (api.Tail, []api.Item) {
	var whole []api.Item
	t.Items, whole = roomy(t.Items, strangeItem)
	return t, whole
}

// roomyTails are l with room behind them, and behind each one's Items; and a copy of all of it, that room too.
func roomyTails(l []api.Tail) (row, whole, copied []api.Tail) {
	row, whole = roomy(l, strangeTail())
	for i := range whole {
		whole[i], _ = roomyTail(whole[i])
	}
	return row, whole, apart(full(whole))
}

// full are the same tails, each with all the room of its Items.
func full(l []api.Tail) []api.Tail {
	l = slices.Clone(l)
	for i := range l {
		l[i].Items = l[i].Items[:cap(l[i].Items)]
	}
	return l
}

// spoil changes all that a list reaches.
func spoil[T any](l []T, strange T) {
	l = l[:cap(l)]
	for i := range l {
		l[i] = strange
	}
}

// spoilTails changes all that tails reach, first what their Items are.
func spoilTails(l []api.Tail) {
	for _, t := range l[:cap(l)] {
		spoil(t.Items, strangeItem)
	}
	spoil(l, strangeTail())
}

func callAll(l []api.Tail, x api.Tail, c api.Claim) {
	tails.Check(x)
	tails.Add(l, x)
	tails.Choose(l)
	tails.Claim(c.Region, c.Epoch, c.Node, x)
	tails.Open(x, c)
}

// someRows are of right tails and of others, in order and in none.
func someRows() [][]api.Tail {
	return [][]api.Tail{
		nil, {}, {{}}, {tail(1, 5, 20, 3)}, {tail(1, 5, 20, 3), tail(2, 5, 25, 4), tail(3, 1, 30, 5)},
		{tail(3, 5, 20, 3), tail(1, 5, 20, 3), tail(3, 5, 9, 1)}, nodes(3, 1, 2, 3, 0, 4, 1), {first(1, 3), first(2, 3)}, {first(2, 0), first(1, 0)},
	}
}

func someTails() []api.Tail {
	return []api.Tail{{}, first(1, 0), first(2, 3), tail(1, 5, 20, 3), tail(3, 1, 9, 9), loose(4, 9, 3, 9, 9), loose(-1, 0, 1, -1, 5), tail(2, 900000000, 30, 0)}
}

func TestCallsEndAtAllArguments(t *testing.T) {
	numbers := among(farOff, 0, 1, 2, 3, 4, 5, 2000, 900000000)
	logs := [][]api.Item{nil, {}, {{}}, {user(1, 1, 1)}, {opening(5, 2)}, {user(5, 1, 1), user(1, 1, 1)}}
	for _, m := range numbers {
		for _, n := range numbers {
			for i, l := range logs {
				for _, x := range []api.Tail{{Node: m, Log: n, Commit: m, Items: l}, {Node: 2, Log: n, Commit: m, Items: l}, {Node: 1 + i%3, Log: 5, Commit: n, Items: l}} {
					wantChecked(t, "any numbers", x)
					wantAdd(t, []api.Tail{{Node: n, Log: m}, {Node: m}, x}, x)
					wantChoose(t, []api.Tail{x, {Node: 1, Log: n, Commit: m}, {Node: 3, Log: m, Commit: n, Items: l}})
					wantClaimed(t, "any numbers", m, n, 1+i%3, x)
					wantClaimed(t, "any numbers", 1+i%5, m, n, tail(1, 5, 3, 0))
					wantOpen(t, "any numbers", x, api.Claim{Region: n, Epoch: m, Node: n, Size: m})
				}
			}
		}
	}
}

func TestVeryLongRows(t *testing.T) {
	l := make([]api.Tail, 1<<18)
	for i := range l {
		l[i] = api.Tail{Node: i % 7, Log: i % 1000, Commit: i, Items: []api.Item{user(1, 1, i)}}
	}
	for _, node := range []int{-1, 0, 3, 6, 7} {
		wantAdd(t, l, loose(node, 1, 1, 1, 1))
	}
	wantChoose(t, l)
	wantChoose(t, l[:2])
	x := api.Tail{Node: 1, Log: 1, Items: make([]api.Item, 1<<18)}
	for i := range x.Items {
		x.Items[i] = user(1, 1, 1+i)
	}
	wantCheck(t, "very many items", x, false)
	wantClaim(t, "very many items", 1, 2, 3, x, api.ErrTailsForm)
	wantOpen(t, "very many items", x, someClaims()[0])
	wantChosen(t, "very many items", 1, 9, loose(2, 1, 9, 9, 1), x)
	wantAdd(t, []api.Tail{x, x}, first(2, 1))
}

func TestTextsMayHaveAnyBytes(t *testing.T) {
	for _, s := range []string{"", "\x00", "\xff\xfe", "\xed\xa0\x80", "a\nb", strings.Repeat("\x80", 200)} {
		x := api.Tail{Node: 1, Log: 1, Items: []api.Item{text(1, 1, 1, s)}}
		wantCheck(t, "a text", x, true)
		wantClaim(t, "a text", 1, 2, 3, x, api.OK)
		wantOpen(t, "a text", x, someClaims()[2])
		wantChosen(t, "a text", 0, 0, x, first(2, 1))
		wantAdd(t, []api.Tail{x}, first(2, 1))
	}
	x := api.Tail{Node: 1, Log: 1, Items: []api.Item{text(1, 1, 1, strings.Repeat("x", 1<<24))}}
	wantCheck(t, "a very long text", x, false)
	wantClaim(t, "a very long text", 1, 2, 3, x, api.ErrTailsForm)
}

// What is handed in stays, with the room behind it.
func TestWhatIsHandedInStays(t *testing.T) {
	for _, was := range someRows() {
		for _, one := range someTails() {
			l, whole, before := roomyTails(was)
			x, items := roomyTail(one)
			itemsBefore := slices.Clone(items)
			for _, c := range []api.Claim{someClaims()[2], {}} {
				callAll(l, x, c)
			}
			if !sameTails(full(whole), before) || !slices.Equal(items, itemsBefore) {
				t.Errorf("R2: what was handed in is changed, or the room behind it: %s; %s", brief(was), brief(one))
			}
		}
	}
}

// What has room behind it is no longer than it is.
func TestListsEndAtTheirEnd(t *testing.T) {
	x, _ := roomyTail(tail(1, 5, 20, 20))
	wantCheck(t, "a tail with room", x, true)
	wantClaim(t, "a tail with room", 1, 7, 2, x, api.OK)
	wantOpen(t, "a tail with room", x, someClaims()[2])
	x.Commit = 21
	wantCheck(t, "a Commit within the room", x, false)
	l, _ := roomy([]api.Tail{tail(1, 5, 20, 3)}, tail(2, 9, 30, 5))
	wantChosen(t, "one, with room that has another", -1, 0, l...)
	if _, _, ok := tails.Choose(l); ok {
		t.Errorf("P16.2: Choose has looked at the room behind tails")
	}
	wantAdd(t, l, first(3, 1))
}

// What Add tells shares nothing with what was handed in, nor with what comes out of another call; and no two of its lists are one.
func TestWhatIsAddedIsNew(t *testing.T) {
	for _, was := range someRows() {
		for _, one := range someTails() {
			l, whole, before := roomyTails(was)
			x, items := roomyTail(one)
			itemsBefore := slices.Clone(items)
			want := apart(added(was, one))
			a, b := tails.Add(l, x), tails.Add(l, x)
			spoilTails(a)
			if !sameTails(full(whole), before) || !slices.Equal(items, itemsBefore) {
				t.Errorf("R2: what Add tells shares memory with what was handed in: %s; %s", brief(was), brief(one))
			}
			if c := tails.Add(l, x); !sameTails(b, want) || !sameTails(c, want) {
				t.Errorf("R2: what Add tells shares memory with what comes out elsewhere: %s; %s", brief(was), brief(one))
			}
			spoilTails(whole)
			spoil(items, strangeItem)
			if !sameTails(b, want) {
				t.Errorf("R2: what Add tells is changed with what was handed in: %s; %s", brief(was), brief(one))
			}
		}
	}
}

func TestTailsOfOneAnswerAreApart(t *testing.T) {
	items := plain(9, 1, 1)
	l := []api.Tail{{Node: 1, Log: 1, Items: items}, {Node: 2, Log: 1, Items: items}, {Node: 2, Log: 1, Items: items[:5]}, {Node: 4, Log: 1, Items: items[3:]}}
	x := api.Tail{Node: 3, Log: 1, Items: items}
	n := len(tails.Add(l, x))
	for i := range n {
		got := tails.Add(l, x)
		spoil(got[i].Items, strangeItem)
		for j, y := range got {
			if want := added(l, x)[j]; i != j && !same(y, want) {
				t.Errorf("R2: the tails %d and %d that Add tells share their Items", i, j)
			}
		}
	}
}

// What comes out may be handed in again, and two rows that grow from one do not meet.
func TestRowsGrowApart(t *testing.T) {
	from := tails.Add(nil, first(1, 1))
	from = tails.Add(from, first(2, 2))
	a, b := tails.Add(from, first(3, 3)), tails.Add(from, first(3, 4))
	c, d := tails.Add(from, first(0, 3)), tails.Add(from, first(1, 4))
	for i, got := range [][]api.Tail{from, a, b, c, d} {
		want := [][]api.Tail{
			{first(1, 1), first(2, 2)}, {first(1, 1), first(2, 2), first(3, 3)}, {first(1, 1), first(2, 2), first(3, 4)},
			{first(0, 3), first(1, 1), first(2, 2)}, {first(1, 4), first(2, 2)},
		}[i]
		if !sameTails(got, want) {
			t.Errorf("R2: rows that grow from one are %s; want %s", brief(got), brief(want))
		}
	}
}

func TestWhatIsChosenIsNew(t *testing.T) {
	for _, was := range someRows() {
		l, whole, before := roomyTails(was)
		want, wantCommit, _ := chosen(apart(was))
		a, _, _ := tails.Choose(l)
		b, commit, _ := tails.Choose(l)
		spoil(a.Items, strangeItem)
		if !sameTails(full(whole), before) {
			t.Errorf("R2: what is chosen shares memory with what was handed in: %s", brief(was))
		}
		if c, _, _ := tails.Choose(l); !same(b, want) || !same(c, want) || commit != wantCommit {
			t.Errorf("R2: what is chosen shares memory with what comes out elsewhere: %s", brief(was))
		}
		spoilTails(whole)
		if !same(b, want) {
			t.Errorf("R2: what is chosen is changed with what was handed in: %s", brief(was))
		}
	}
}

func TestWhatIsOpenedIsNew(t *testing.T) {
	c := someClaims()[2]
	for _, one := range someTails() {
		x, items := roomyTail(one)
		before := slices.Clone(items)
		want := openedBy(one, c)
		a, b := tails.Open(x, c), tails.Open(x, c)
		spoil(a, strangeItem)
		if !slices.Equal(items, before) {
			t.Errorf("R2: what is opened shares memory with what was handed in: %s", brief(one))
		}
		if d := tails.Open(x, c); !slices.Equal(b, want) || !slices.Equal(d, want) {
			t.Errorf("R2: what is opened shares memory with what comes out elsewhere: %s", brief(one))
		}
		spoil(items, strangeItem)
		if !slices.Equal(b, want) {
			t.Errorf("R2: what is opened is changed with what was handed in: %s", brief(one))
		}
	}
}

// What is changed behind a call is told as it is then: nothing is kept from call to call.
func TestNothingIsKept(t *testing.T) {
	x := tail(1, 5, 20, 3)
	l := []api.Tail{tail(1, 5, 20, 3), tail(2, 5, 20, 4), tail(3, 5, 20, 5)}
	c := someClaims()[2]
	for i := range x.Items {
		was := x.Items[i]
		callAll(l, x, c)
		x.Items[i] = claimed(was.Epoch, 5, 3)
		wantChecked(t, "a changed item", x)
		wantClaimed(t, "a changed item", 2, 7, 1, x)
		wantOpen(t, "a changed item", x, c)
		x.Items[i] = user(was.Epoch, 4, 1)
		wantCheck(t, "a wrong item", x, false)
		wantClaim(t, "a wrong item", 2, 7, 1, x, api.ErrTailsForm)
		x.Items[i] = was
		wantCheck(t, "the item that was there", x, true)
	}
	for i := range l {
		callAll(l, x, c)
		l[i].Log, l[i].Commit = 6+i, 9+i
		l[i].Items[1] = user(1, 1, 99)
		wantChosen(t, "changed tails", i, 9+i, l...)
		wantAdd(t, l, x)
		wantAdd(t, l, tail(4, 1, 1, 1))
	}
}

// What a call answers hangs on its arguments, not on the calls ahead of it.
func TestCallsAnswerTheSameAgain(t *testing.T) {
	x := tail(1, 5, 20, 3)
	l := []api.Tail{tail(1, 5, 20, 3), tail(3, 5, 21, 4)}
	for range 2 {
		for _, row := range someRows() {
			for _, other := range someTails() {
				callAll(row, other, someClaims()[1])
				wantCheck(t, "again", x, true)
				wantChosen(t, "again", 1, 4, l...)
				wantAdd(t, l, tail(2, 5, 9, 9))
				wantClaim(t, "again", 2, 7, 1, x, api.OK)
				wantClaim(t, "a wrong one again", 2, 7, 4, x, api.ErrTailsForm)
				wantOpen(t, "again", x, someClaims()[2])
			}
		}
	}
}

func TestCallsBesideOneAnother(t *testing.T) {
	l := []api.Tail{tail(1, 5, 20, 3), tail(2, 5, 40, 4), tail(3, 6, 30, 5)}
	var all sync.WaitGroup
	for range 8 {
		all.Go(func() {
			for i := range 40 {
				x := l[i%3]
				wantCheck(t, "beside others", x, true)
				wantChosen(t, "beside others", 2, 5, l...)
				wantAdd(t, l[:i%4], x)
				wantClaimed(t, "beside others", 1+i%6, 1+i, 1+i%4, x)
				wantOpen(t, "beside others", x, someClaims()[i%5])
			}
		})
	}
	all.Wait()
}
