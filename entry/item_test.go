package entry_test

import (
	"crypto/sha256"
	"strings"
	"testing"

	"estreat/api"
	"estreat/entry"
	"estreat/sha"
)

func wantLeaf(t *testing.T, x api.Item) {
	t.Helper()
	want, code := api.Digest{}, api.ErrEntryForm
	if itemIsRight(x) {
		want, code = sha256.Sum256([]byte("\x00"+join(itemParts(x)))), api.OK
	}
	if d, e := entry.Leaf(x); d != want || e != code {
		t.Errorf("P8.3: Leaf(%s) is %x, %d; want %x, %d", brief(x), d, e, want, code)
	}
}

func TestPutItemOfTheChapter(t *testing.T) {
	x := api.Item{Epoch: 1, Entry: api.Entry{Kind: api.EntryUser, Client: 1, Seq: 2, Text: "ab"}}
	inner := []byte{1, 0, 0, 1, 1, 2, 0, 0, 1, 1, 3, 0, 0, 1, 2, 4, 0, 0, 2, 97, 98}
	if len(inner) != 21 {
		t.Fatalf("the chapter tells 21 bytes, not %d", len(inner))
	}
	want := string(append([]byte{1, 0, 0, 1, 1, 2, 0, 0, 21}, inner...))
	if b, e := entry.PutItem(x); string(b) != want || e != api.OK {
		t.Errorf("P8.3: PutItem of the chapter's item is % x, %d", b, e)
	}
	if got, e := entry.GetItem([]byte(want)); got != x || e != api.OK {
		t.Errorf("P8.3: GetItem of the chapter's bytes is %+v, %d", got, e)
	}
	if d, e := entry.Leaf(x); d != sha256.Sum256([]byte("\x00"+want)) || e != api.OK {
		t.Errorf("P8.3: Leaf of the chapter's item is %x, %d", d, e)
	}
	if d, e := entry.Leaf(api.Item{}); d != (api.Digest{}) || e != api.ErrEntryForm {
		t.Errorf("P8.3: Leaf(zero) is %x, %d", d, e)
	}
}

func TestPutItemByteByByte(t *testing.T) {
	for _, x := range writtenEntries {
		size := string([]byte{byte(len(x.want))})
		for _, y := range []struct {
			epoch int
			want  string
		}{
			{1, "\x01\x00\x00\x01\x01"}, {255, "\x01\x00\x00\x01\xff"}, {258, "\x01\x00\x00\x02\x01\x02"}, {65536, "\x01\x00\x00\x03\x01\x00\x00"}, {900000000, "\x01\x00\x00\x04\x35\xa4\xe9\x00"},
		} {
			item := api.Item{Epoch: y.epoch, Entry: x.entry}
			want := y.want + "\x02\x00\x00" + size + x.want
			if b, e := entry.PutItem(item); string(b) != want || e != api.OK {
				t.Errorf("P8.3: PutItem(%+v) is % x, %d; want % x", item, b, e, want)
			}
			if got, e := entry.GetItem([]byte(want)); got != item || e != api.OK {
				t.Errorf("P8.3: GetItem(% x) is %+v, %d; want %+v", want, got, e, item)
			}
			if d, e := entry.Leaf(item); d != sha256.Sum256([]byte("\x00"+want)) || e != api.OK {
				t.Errorf("P8.3: Leaf(%+v) is %x, %d", item, d, e)
			}
		}
	}
}

func TestItemsAreRightByEpochAndEntry(t *testing.T) {
	for _, e := range ends() {
		for _, x := range []struct {
			epoch int
			want  api.Errno
		}{
			{1, api.OK}, {2, api.OK}, {900000000, api.OK}, {api.MaxEpoch, api.OK},
			{0, api.ErrEntryForm}, {-1, api.ErrEntryForm}, {900000001, api.ErrEntryForm}, {1<<32 + 1, api.ErrEntryForm},
		} {
			item := api.Item{Epoch: x.epoch, Entry: e}
			b, f := entry.PutItem(item)
			d, g := entry.Leaf(item)
			if f != x.want || g != x.want || (len(b) == 0) != (f != api.OK) || (d == api.Digest{}) != (g != api.OK) {
				t.Errorf("P8.3: PutItem of epoch %d is % x, %d, Leaf is %x, %d; want %d", x.epoch, b, f, d, g, x.want)
			}
		}
	}
	for _, e := range wrongEntries() {
		item := api.Item{Epoch: 1, Entry: e}
		if b, f := entry.PutItem(item); len(b) != 0 || f != api.ErrEntryForm {
			t.Errorf("P8.3: PutItem(%s) is % .300x, %d; want none, ErrEntryForm", brief(item), b, f)
		}
	}
}

// An entry is right in an item of any epoch: those of its claim or its head play no part.
func TestItemsEpochIsItsOwn(t *testing.T) {
	for _, e := range rightEntries() {
		for _, epoch := range []int{1, 258, 259, 900000000} {
			x := api.Item{Epoch: epoch, Entry: e}
			b, f := entry.PutItem(x)
			if back, g := entry.GetItem(b); back != x || f != api.OK || g != api.OK {
				t.Errorf("P8.4: %+v is laid as % x, %d, and read as %+v, %d", x, b, f, back, g)
			}
		}
	}
}

func TestLeafOfRightAndWrongItems(t *testing.T) {
	leafOf := map[api.Digest]api.Item{}
	for _, x := range rightItems() {
		wantLeaf(t, x)
		d, _ := entry.Leaf(x)
		if other, there := leafOf[d]; there && other != x {
			t.Errorf("P8.4: %+v and %+v have the same leaf", x, other)
		}
		leafOf[d] = x
	}
	for _, x := range wrongItems() {
		wantLeaf(t, x)
	}
}

func TestLeafIsThatOfWhatPutItemLays(t *testing.T) {
	for _, x := range rightItems() {
		b, e := entry.PutItem(x)
		if d, f := entry.Leaf(x); d != sha.Leaf(string(b)) || d != sha.Of("\x00", string(b)) || e != api.OK || f != api.OK {
			t.Errorf("P8.3: Leaf(%+v) is %x, %d", x, d, f)
		}
	}
}

func TestGetItemRefusesNumbersOfOtherBytes(t *testing.T) {
	k := itemThing()
	for _, x := range k.ends {
		l := itemParts(x)
		k.refuses(t, "no epoch", with(l, 0, field(1, "")))
		for why, data := range otherNumbers(x.Epoch) {
			k.refuses(t, why, with(l, 0, field(1, data)))
		}
		for _, n := range noEpochs {
			if n >= 0 {
				k.refuses(t, "a wrong epoch", with(l, 0, field(1, number(n))))
			}
		}
	}
}

func TestGetItemRefusesRowsOfOtherTags(t *testing.T) {
	k := itemThing()
	for _, x := range k.ends {
		l := itemParts(x)
		for _, tags := range [][]int{{0, 1}, {2, 3}, {1, 3}, {1, 255}, {2, 255}, {11, 12}} {
			k.refuses(t, "of other tags", field(tags[0], dataOf(l[0]))+field(tags[1], dataOf(l[1])))
		}
	}
}

// The outer rows are well formed in all of these.
func TestGetItemRefusesItemsWithoutAnEntry(t *testing.T) {
	k := itemThing()
	epoch := field(1, "\x07")
	for _, e := range ends() {
		for _, data := range spoiltRows(entryParts(e)) {
			k.wantGet(t, "no entry", epoch+field(2, data))
		}
		k.refuses(t, "an item", epoch+field(2, join(itemParts(api.Item{Epoch: 7, Entry: e}))))
		for n := range 256 {
			if api.EntryKind(n) != e.Kind {
				k.refuses(t, "an entry of another kind", epoch+field(2, with(entryParts(e), 0, field(1, number(n)))))
			}
		}
	}
	for why, data := range map[string]string{
		"no byte":            "",
		"a byte 0":           "\x00",
		"a claim":            join(claimParts(plainClaim())),
		"a head":             join(signedParts(plainSigned())),
		"a text":             "a text",
		"65536 bytes":        strings.Repeat("\x01", 65536),
		"the zero entry's":   join(entryParts(api.Entry{})),
		"a text of 201":      join(entryParts(user(1, 1, strings.Repeat("x", 201)))),
		"client 4":           join(entryParts(user(4, 1, "x"))),
		"seq 0":              join(entryParts(user(1, 0, "x"))),
		"a head of region 6": join(entryParts(anchor(api.Signed{Head: api.Head{Region: 6, Epoch: 1}, Node: 1}))),
		"a head of node 4":   join(entryParts(anchor(api.Signed{Head: api.Head{Region: 1, Epoch: 1}, Node: 4}))),
		"a claim of node 4":  join(entryParts(claimed(api.Claim{Region: 1, Epoch: 1, Node: 4}))),
		"a claim of epoch 0": join(entryParts(claimed(api.Claim{Region: 1, Node: 1}))),
		"a root of 31 bytes": field(1, "\x03") + field(6, with(claimParts(plainClaim()), 4, field(5, rise40[1:]))),
		"a root of 33 bytes": field(1, "\x03") + field(6, with(claimParts(plainClaim()), 4, field(5, rise40+"\x00"))),
	} {
		k.refuses(t, why, epoch+field(2, data))
	}
}

func FuzzGetItem(f *testing.F) {
	for _, x := range rightItems() {
		f.Add([]byte(join(itemParts(x))))
	}
	f.Add([]byte{})
	f.Add([]byte(join(itemParts(api.Item{}))))
	k := itemThing()
	f.Fuzz(func(t *testing.T, b []byte) {
		k.wantGet(t, "made up", string(b))
		if x, e := entry.GetItem(b); e == api.OK {
			wantLeaf(t, x)
		}
	})
}
