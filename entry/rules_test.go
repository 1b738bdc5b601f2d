package entry_test

import (
	"bytes"
	"crypto/sha256"
	"slices"
	"strings"
	"sync"
	"testing"

	"estreat/api"
	"estreat/entry"
)

// roomy is s with room behind it, all of it 0xee, and that whole.
func roomy(s string) (b, whole []byte) {
	whole = append([]byte(s), bytes.Repeat([]byte{0xee}, 300)...)
	return whole[:len(s)], whole
}

func spoil(b []byte) {
	for i := range b {
		b[i] = 0xdd
	}
}

func TestClaimCallsEndAtAllArguments(t *testing.T) {
	numbers := slices.Concat(farOff, []int{0, 1, 3, 5, 6, 100000, 100001, 900000000})
	for _, region := range numbers {
		for _, epoch := range numbers {
			for _, node := range numbers {
				for _, size := range numbers {
					c := api.Claim{Region: region, Epoch: epoch, Node: node, Size: size}
					want := api.ErrEntryForm
					if claimIsRight(c) {
						want = api.OK
					}
					b, e := entry.PutClaim(c)
					if e != want || (len(b) == 0) != (e != api.OK) || entry.CheckClaim(c) != want {
						t.Fatalf("R1: PutClaim(%+v) is % x, %d; CheckClaim is %d; want %d", c, b, e, entry.CheckClaim(c), want)
					}
				}
			}
		}
	}
}

func TestEntryCallsEndAtAllArguments(t *testing.T) {
	numbers := slices.Concat(farOff, []int{0, 1, 2, 3, 4, 1000000, 1000001, 900000000})
	for _, kind := range numbers {
		for _, client := range numbers {
			for _, seq := range numbers {
				for _, text := range []string{"", "a", allBytes(200), allBytes(201)} {
					e := api.Entry{Kind: api.EntryKind(kind), Client: client, Seq: seq, Text: text}
					x := api.Item{Epoch: 1, Entry: e}
					want := api.ErrEntryForm
					if entryIsRight(e) {
						want = api.OK
					}
					b, f := entry.Put(e)
					c, g := entry.PutItem(x)
					d, h := entry.Leaf(x)
					none := want != api.OK
					if f != want || g != want || h != want || entry.Check(e) != want || (len(b) == 0) != none || (len(c) == 0) != none || (d == api.Digest{}) != none {
						t.Fatalf("R1: %+v is laid as % x, %d, as an item as % x, %d, and has the leaf %x, %d; want %d", e, b, f, c, g, d, h, want)
					}
				}
			}
		}
	}
}

func TestLongTextsAreRefused(t *testing.T) {
	long := strings.Repeat("x", 1<<24)
	for kind := range api.EntryKind(5) {
		e := api.Entry{Kind: kind, Client: 1, Seq: 1, Text: long}
		wantCheck(t, e)
		if b, f := entry.PutItem(api.Item{Epoch: 1, Entry: e}); len(b) != 0 || f != api.ErrEntryForm {
			t.Errorf("R1: PutItem of a long text is %d bytes, %d", len(b), f)
		}
	}
}

func TestReadingEndsWithManyBytes(t *testing.T) {
	full := strings.Repeat("d", 65536)
	var row strings.Builder
	for tag := 1; tag <= 255; tag++ {
		row.WriteString(field(tag, full))
	}
	claims, entries, items := claimThing(), entryThing(), itemThing()
	for _, s := range []string{row.String(), strings.Repeat("\x00", 1<<20), strings.Repeat("\xff", 1<<20), strings.Repeat("\x01", 1<<20), strings.Repeat(field(1, "\x01"), 1<<16)} {
		claims.refuses(t, "many bytes", s)
		entries.refuses(t, "many bytes", s)
		items.refuses(t, "many bytes", s)
	}
}

// Fields in fields in fields: what is read goes no deeper than the head of an item's anchor.
func TestReadingEndsWithWhatIsNested(t *testing.T) {
	claims, entries, items := claimThing(), entryThing(), itemThing()
	for _, l := range [][]string{{field(1, "\x01"), "\x02"}, {field(1, "\x02"), "\x05"}, {field(1, "\x03"), "\x06"}, {"", "\x02"}, {"", "\x06"}} {
		s := join(entryParts(plains()[0]))
		for len(s) < 65536 {
			s = l[0] + field(int(l[1][0]), s)
			claims.wantGet(t, "nested", s)
			entries.wantGet(t, "nested", s)
			items.wantGet(t, "nested", s)
			s += field(200, s[:len(s)/2])
			claims.refuses(t, "nested", s)
			entries.refuses(t, "nested", s)
			items.refuses(t, "nested", s)
		}
	}
}

func testReadingLeavesTheBytes[T comparable](t *testing.T, k thing[T]) {
	for _, x := range k.right {
		s := join(k.parts(x))
		for _, s := range []string{s, s[:len(s)-1], s + "\x07", "\x01\x00\x00\x01\x01", ""} {
			b, whole := roomy(s)
			before := slices.Clone(whole)
			got, e := k.get(b)
			if !bytes.Equal(whole, before) {
				t.Errorf("R2: %s: what was handed in is changed, or the room behind it: % x", k.name, whole)
			}
			spoil(whole)
			if want, there := k.in(s); got != want || (e == api.OK) != there {
				t.Errorf("R2: %s: what is read of % x hangs on its memory: %+v, %d", k.name, s, got, e)
			}
		}
	}
}

// What stands behind the end, in the same memory, makes no bytes whole that are cut.
func testReadingStopsAtTheEnd[T comparable](t *testing.T, k thing[T]) {
	var none T
	for _, x := range k.ends {
		whole := []byte(join(k.parts(x)))
		for n := range len(whole) {
			if got, e := k.get(whole[:n]); got != none || e != api.ErrEntryForm {
				t.Errorf("R2: %s: the first %d bytes are read as %+v, %d", k.name, n, got, e)
			}
		}
	}
}

func testBytesAreNew[T comparable](t *testing.T, k thing[T]) {
	for _, x := range k.right {
		one, e := k.put(x)
		two, f := k.put(x)
		spoil(one[:cap(one)])
		three, g := k.put(x)
		if want := join(k.parts(x)); string(two) != want || string(three) != want || e != api.OK || f != api.OK || g != api.OK {
			t.Errorf("R2: %s: bytes that come out share their memory: % x, % x", k.name, two, three)
		}
	}
}

// What was read is laid into bytes that have nothing of those it was read from.
func testBytesOfWhatWasReadAreNew[T comparable](t *testing.T, k thing[T]) {
	for _, x := range k.right {
		want := join(k.parts(x))
		b := []byte(want)
		got, _ := k.get(b)
		out, e := k.put(got)
		spoil(b)
		if string(out) != want || got != x || e != api.OK {
			t.Errorf("R2: %s: what is laid hangs on the bytes that it was read from: % x", k.name, out)
		}
		spoil(out[:cap(out)])
		if got != x {
			t.Errorf("R2: %s: what was read hangs on the bytes that it was laid as: %+v", k.name, got)
		}
	}
}

func testMemory[T comparable](t *testing.T, k thing[T]) {
	testReadingLeavesTheBytes(t, k)
	testReadingStopsAtTheEnd(t, k)
	testBytesAreNew(t, k)
	testBytesOfWhatWasReadAreNew(t, k)
}

func TestWhatIsHandedInStaysAndWhatComesOutIsNew(t *testing.T) {
	t.Run("claims", func(t *testing.T) { testMemory(t, claimThing()) })
	t.Run("entries", func(t *testing.T) { testMemory(t, entryThing()) })
	t.Run("items", func(t *testing.T) { testMemory(t, itemThing()) })
}

func TestArgumentsStay(t *testing.T) {
	for _, x := range slices.Concat(rightItems(), wrongItems()) {
		item := x
		item.Entry.Text = strings.Clone(x.Entry.Text)
		e, c := item.Entry, item.Entry.Claim
		entry.CheckClaim(c)
		entry.PutClaim(c)
		entry.Check(e)
		entry.Put(e)
		entry.PutItem(item)
		entry.Leaf(item)
		if item != x || e != x.Entry || c != x.Entry.Claim {
			t.Errorf("R2: what was handed in is changed: %s, %s, %+v", brief(item), brief(e), c)
		}
	}
}

// What a call answers hangs on its arguments, not on the calls ahead of it.
func TestCallsAnswerTheSameAgain(t *testing.T) {
	claims, entries, items := claimThing(), entryThing(), itemThing()
	between := func() {
		entry.CheckClaim(api.Claim{})
		entry.PutClaim(greatestClaim())
		entry.GetClaim([]byte(join(claimParts(greatestClaim()))))
		entry.GetClaim([]byte("\x01\x00\x00\x01\x05"))
		entry.Check(api.Entry{})
		entry.Put(anchor(greatestSigned()))
		entry.Get([]byte(join(entryParts(claimed(greatestClaim())))))
		entry.Get(nil)
		entry.PutItem(api.Item{Epoch: 9, Entry: user(3, 9, "between")})
		entry.GetItem([]byte("\x01\x00\x00\x01\x05"))
		entry.Leaf(api.Item{})
	}
	for _, x := range rightItems() {
		e := x.Entry
		for range 2 {
			wantCheck(t, e)
			between()
			entries.wantPut(t, e, join(entryParts(e)))
			between()
			entries.wantGet(t, "again", join(entryParts(e)))
			between()
			items.wantPut(t, x, join(itemParts(x)))
			between()
			items.wantGet(t, "again", join(itemParts(x)))
			between()
			wantLeaf(t, x)
			between()
			if e.Kind == 3 {
				claims.wantPut(t, e.Claim, join(claimParts(e.Claim)))
				claims.wantGet(t, "again", join(claimParts(e.Claim)))
			}
			claims.refuses(t, "again", "")
			entries.refuses(t, "again", "")
			items.refuses(t, "again", "")
		}
	}
}

func TestCallsBesideOneAnother(t *testing.T) {
	items := itemThing()
	var all sync.WaitGroup
	for range 8 {
		all.Go(func() {
			for _, x := range items.right {
				s := join(itemParts(x))
				items.wantPut(t, x, s)
				items.wantGet(t, "beside others", s)
				if d, e := entry.Leaf(x); d != sha256.Sum256([]byte("\x00"+s)) || e != api.OK {
					t.Errorf("R2: Leaf(%+v) beside others is %x, %d", x, d, e)
				}
			}
		})
	}
	all.Wait()
}
