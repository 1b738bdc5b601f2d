package entry_test

import (
	"strings"
	"testing"

	"estreat/api"
)

// What holds of a claim's bytes, an entry's and an item's alike.

func (k thing[T]) wantPut(t *testing.T, x T, want string) {
	t.Helper()
	if b, e := k.put(x); string(b) != want || e != api.OK {
		t.Errorf("%s: %+v is laid as % x, %d; want % x", k.name, x, b, e, want)
	}
}

// wantGet holds what is read against the thing whose bytes s are, or ErrEntryForm if there is none.
func (k thing[T]) wantGet(t *testing.T, why, s string) {
	t.Helper()
	want, there := k.in(s)
	code := api.ErrEntryForm
	if there {
		code = api.OK
	}
	if x, e := k.get([]byte(s)); x != want || e != code {
		t.Errorf("%s: %s: % .300x is read as %s, %d; want %s, %d", k.name, why, s, brief(x), e, brief(want), code)
	}
}

func (k thing[T]) refuses(t *testing.T, why, s string) {
	t.Helper()
	var none T
	if x, e := k.get([]byte(s)); x != none || e != api.ErrEntryForm {
		t.Errorf("%s: %s: % .300x is read as %s, %d; want zero, ErrEntryForm", k.name, why, s, brief(x), e)
	}
}

// refusesFields holds in each of what comes out of a whole row by one change of its fields.
func (k thing[T]) refusesFields(t *testing.T, l []string) {
	t.Helper()
	for i := range l {
		k.refuses(t, "missing", with(l, i, ""))
		k.refuses(t, "doubled", with(l, i, l[i]+l[i]))
		k.refuses(t, "doubled at the end", join(l)+l[i])
		k.refuses(t, "empty of tag 0", with(l, i, "\x00\x00\x00\x00"))
		k.refuses(t, "empty of tag 0 ahead", with(l, i, "\x00\x00\x00\x00"+l[i]))
		for j := range i {
			k.refuses(t, "in another order", join(l[:j])+l[i]+join(l[j+1:i])+l[j]+join(l[i+1:]))
		}
		for c := range 256 {
			if c != int(l[i][0]) {
				k.refuses(t, "of another tag", with(l, i, string([]byte{byte(c)})+l[i][1:]))
			}
			k.refuses(t, "a field ahead of it", with(l, i, field(c, "")+l[i]))
			k.refuses(t, "a field with a byte ahead of it", with(l, i, field(c, "\x01")+l[i]))
		}
	}
	for n := range l {
		k.refuses(t, "the first ones", join(l[:n]))
		k.refuses(t, "the last ones", join(l[n+1:]))
	}
}

func testLaidAndRead[T comparable](t *testing.T, k thing[T]) {
	laidAs := map[string]T{}
	for _, x := range k.right {
		want := join(k.parts(x))
		k.wantPut(t, x, want)
		if back, e := k.get([]byte(want)); back != x || e != api.OK {
			t.Errorf("P8.4: %s: %+v is read again as %+v, %d", k.name, x, back, e)
		}
		b, _ := k.put(x)
		if other, there := laidAs[string(b)]; there && other != x {
			t.Errorf("P8.4: %s: %+v and %+v have the same bytes % x", k.name, x, other, b)
		}
		laidAs[string(b)] = x
	}
	unlike := map[T]bool{}
	for _, x := range k.right {
		unlike[x] = true
	}
	if len(laidAs) != len(unlike) {
		t.Errorf("P8.4: %s: %d unlike ones have %d unlike bytes", k.name, len(unlike), len(laidAs))
	}
}

func testWrongOnes[T comparable](t *testing.T, k thing[T]) {
	for _, x := range k.wrong {
		if b, e := k.put(x); len(b) != 0 || e != api.ErrEntryForm {
			t.Errorf("%s: %s is laid as % .300x, %d; want none, ErrEntryForm", k.name, brief(x), b, e)
		}
		// What the tests lay of it has lost the signs of its numbers and another kind's fields, so it may be a right one's bytes.
		k.wantGet(t, "a wrong one", join(k.parts(x)))
	}
}

func testNoBytes[T comparable](t *testing.T, k thing[T]) {
	var none T
	for _, b := range [][]byte{nil, {}, make([]byte, 0, 100)} {
		if x, e := k.get(b); x != none || e != api.ErrEntryForm {
			t.Errorf("%s: no bytes are read as %+v, %d", k.name, x, e)
		}
	}
}

func testCutBytes[T comparable](t *testing.T, k thing[T]) {
	for _, x := range k.right {
		s := join(k.parts(x))
		for n := range len(s) {
			k.refuses(t, "cut behind", s[:n])
			k.refuses(t, "cut ahead", s[n+1:])
			k.wantGet(t, "a byte taken out", s[:n]+s[n+1:])
		}
	}
}

func testMoreBytes[T comparable](t *testing.T, k thing[T]) {
	for _, x := range k.ends {
		s := join(k.parts(x))
		for c := range 256 {
			one := string([]byte{byte(c)})
			k.refuses(t, "a byte behind", s+one)
			k.refuses(t, "a byte ahead", one+s)
			k.refuses(t, "a field behind", s+field(c, ""))
			k.refuses(t, "a field with a byte behind", s+field(c, "\x01"))
		}
		k.refuses(t, "twice", s+s)
		k.refuses(t, "many bytes behind", s+strings.Repeat("\x00", 1000))
		k.refuses(t, "a whole row behind", s+field(7, "a")+field(8, strings.Repeat("b", 65536)))
		for n := range len(s) + 1 {
			for _, c := range []string{"\x00", "\x01", "\x20", "\xff"} {
				k.wantGet(t, "a byte put in", s[:n]+c+s[n:])
			}
		}
	}
}

// Of what comes of a byte that is turned, some is a right one's, and is read as that one; nothing else is.
func testTurnedBytes[T comparable](t *testing.T, k thing[T]) {
	for _, x := range k.ends {
		s := join(k.parts(x))
		read := 0
		for at := range len(s) {
			for c := range 256 {
				b := []byte(s)
				b[at] = byte(c)
				k.wantGet(t, "a byte turned", string(b))
				if got, e := k.get(b); e == api.OK {
					read++
					if back, f := k.put(got); string(back) != string(b) || f != api.OK || (got == x) != (string(b) == s) {
						t.Errorf("P8.4: %s: % x is read as %+v, and laid as % x, %d", k.name, b, got, back, f)
					}
				}
			}
		}
		if read < len(s) {
			t.Errorf("%s: of the bytes of %+v only %d are read with one turned", k.name, x, read)
		}
	}
}

func testFieldsElsewhere[T comparable](t *testing.T, k thing[T]) {
	for _, x := range k.ends {
		k.refusesFields(t, k.parts(x))
	}
}

func TestWhatIsLaidIsRead(t *testing.T) {
	t.Run("claims", func(t *testing.T) { testLaidAndRead(t, claimThing()) })
	t.Run("entries", func(t *testing.T) { testLaidAndRead(t, entryThing()) })
	t.Run("items", func(t *testing.T) { testLaidAndRead(t, itemThing()) })
}

func TestWrongOnesAreNotLaid(t *testing.T) {
	t.Run("claims", func(t *testing.T) { testWrongOnes(t, claimThing()) })
	t.Run("entries", func(t *testing.T) { testWrongOnes(t, entryThing()) })
	t.Run("items", func(t *testing.T) { testWrongOnes(t, itemThing()) })
}

func TestNoBytesAreRefused(t *testing.T) {
	testNoBytes(t, claimThing())
	testNoBytes(t, entryThing())
	testNoBytes(t, itemThing())
}

func TestBytesThatAreCutAreRefused(t *testing.T) {
	t.Run("claims", func(t *testing.T) { testCutBytes(t, claimThing()) })
	t.Run("entries", func(t *testing.T) { testCutBytes(t, entryThing()) })
	t.Run("items", func(t *testing.T) { testCutBytes(t, itemThing()) })
}

func TestMoreBytesAreRefused(t *testing.T) {
	t.Run("claims", func(t *testing.T) { testMoreBytes(t, claimThing()) })
	t.Run("entries", func(t *testing.T) { testMoreBytes(t, entryThing()) })
	t.Run("items", func(t *testing.T) { testMoreBytes(t, itemThing()) })
}

func TestEveryByteTurned(t *testing.T) {
	t.Run("claims", func(t *testing.T) { testTurnedBytes(t, claimThing()) })
	t.Run("entries", func(t *testing.T) { testTurnedBytes(t, entryThing()) })
	t.Run("items", func(t *testing.T) { testTurnedBytes(t, itemThing()) })
}

func TestFieldsElsewhereAreRefused(t *testing.T) {
	t.Run("claims", func(t *testing.T) { testFieldsElsewhere(t, claimThing()) })
	t.Run("entries", func(t *testing.T) { testFieldsElsewhere(t, entryThing()) })
	t.Run("items", func(t *testing.T) { testFieldsElsewhere(t, itemThing()) })
}

// A claim's bytes are no entry's and no item's, nor is it so with any other two; and a signed head's are none of them.
func TestThingsAreKeptApart(t *testing.T) {
	claims, entries, items := claimThing(), entryThing(), itemThing()
	for _, c := range claims.right {
		entries.refuses(t, "a claim", join(claimParts(c)))
		items.refuses(t, "a claim", join(claimParts(c)))
	}
	for _, e := range entries.right {
		claims.refuses(t, "an entry", join(entryParts(e)))
		items.refuses(t, "an entry", join(entryParts(e)))
	}
	for _, x := range items.right {
		claims.refuses(t, "an item", join(itemParts(x)))
		entries.refuses(t, "an item", join(itemParts(x)))
	}
	for _, s := range signedHeads() {
		for _, b := range []string{join(signedParts(s)), join(headParts(s.Head))} {
			claims.refuses(t, "a head", b)
			entries.refuses(t, "a head", b)
			items.refuses(t, "a head", b)
		}
	}
}
