package keep_test

import (
	"fmt"
	"math/big"
	"slices"
	"strings"
	"testing"

	"estreat/api"
	"estreat/keep"
)

// wantLaid holds PutRecord and GetRecord against each other, of a record that may be, and tells its text.
func wantLaid(t *testing.T, r api.Record) string {
	t.Helper()
	if !recordMayBe(r) {
		t.Fatalf("a record is meant to be such that it may be: %s", brief(r))
	}
	s, e := keep.PutRecord(r)
	if e != api.OK {
		t.Fatalf("P15.3: PutRecord is %d of %s", e, brief(r))
	}
	if most := allowed(r); len(s) > most {
		t.Errorf("P15.3: the text has %d bytes, and may have %d: %s", len(s), most, brief(r))
	}
	if got, e := keep.GetRecord(s); !sameRecord(got, r) || e != api.OK {
		t.Errorf("P15.3: %s comes back as %s, %d", brief(r), brief(got), e)
	}
	return s
}

// allowed is how many bytes a record's text may have.
func allowed(r api.Record) int {
	n := 100
	if r.Kind == 2 {
		n += 300 + len(r.Item.Entry.Text)
	}
	for _, x := range r.Items {
		n += 300 + len(x.Entry.Text)
	}
	return n
}

// wantRead holds GetRecord of any text: it is refused, or the text of just what is read. It tells whether it is read.
func wantRead(t *testing.T, name, s string) bool {
	t.Helper()
	r, e := keep.GetRecord(s)
	if e != api.OK {
		if e != api.ErrKeepForm || !recordIsZero(r) {
			t.Errorf("P15.3: GetRecord of %s is %s, %d", name, brief(r), e)
		}
		return false
	}
	if !recordMayBe(r) {
		t.Errorf("P15.3: GetRecord of %s is what may not be: %s", name, brief(r))
	}
	if again, f := keep.PutRecord(r); again != s || f != api.OK {
		t.Errorf("P15.4: what is read of %s, %s, is laid as another text, %d: % x; of % x", name, brief(r), f, cut(again), cut(s))
	}
	return true
}

func cut(s string) string { return s[:min(len(s), 300)] }

// wantRefused holds GetRecord of a text that is no record's.
func wantRefused(t *testing.T, name, s string) {
	t.Helper()
	if wantRead(t, name, s) {
		r, _ := keep.GetRecord(s)
		t.Errorf("P15.3: %s is read as %s: % x", name, brief(r), cut(s))
	}
}

func TestRecordsAreLaidAndRead(t *testing.T) {
	for _, r := range slices.Concat(rightRecords(), plainRecords()) {
		wantLaid(t, r)
	}
}

func TestTextsMayHaveAnyBytes(t *testing.T) {
	for c := range 256 {
		for _, n := range []int{0, 1, 2, 200} {
			x := text(1, 1, 1, strings.Repeat(string([]byte{byte(c)}), n))
			wantLaid(t, itemRecord(x))
			wantLaid(t, adoptRecord(1, 0, x, x))
			wantFold(t, "any text", keep.New(), itemRecord(x), api.OK)
			wantFold(t, "any text", keep.New(), adoptRecord(1, 0, x), api.OK)
		}
	}
}

func TestRecordsThatMayNotBeHaveNoText(t *testing.T) {
	for _, r := range wrongRecords() {
		if recordMayBe(r) {
			t.Fatalf("a record is meant to be such that it may not be: %s", brief(r))
		}
		if s, e := keep.PutRecord(r); s != "" || e != api.ErrKeepForm {
			t.Errorf("P15.3: PutRecord is % x, %d of %s", cut(s), e, brief(r))
		}
	}
}

// Whether a record may be hangs on no log: what Fold refuses has a text all the same.
func TestRecordsThatAreNotFoldedHaveATextYet(t *testing.T) {
	for _, r := range []api.Record{epochRecord(1), itemRecord(user(8, 1, 1)), adoptRecord(1, 2000), adoptRecord(9, 0), adoptRecord(9, 0, user(10, 1, 1)), claimRecord(claim(1, 1))} {
		wantLaid(t, r)
	}
	wantLaid(t, adoptRecord(9, 1, user(1, 1, 7), user(1, 1, 7), user(1, 1, 3)))
}

// Two unlike records have unlike texts: each thing about a record, changed alone, changes its text.
func TestUnlikeRecordsHaveUnlikeTexts(t *testing.T) {
	of := map[string]api.Record{}
	var l []api.Record
	for _, r := range slices.Concat(rightRecords(), plainRecords(), neighbours()) {
		if !slices.ContainsFunc(l, func(x api.Record) bool { return sameRecord(x, r) }) {
			l = append(l, r)
		}
	}
	for _, r := range l {
		s := wantLaid(t, r)
		if other, ok := of[s]; ok {
			t.Errorf("P15.3: %s and %s have one text", brief(r), brief(other))
		}
		of[s] = r
	}
}

// neighbours are unlike one another in one thing.
func neighbours() []api.Record {
	x, a, c := text(5, 2, 7, "ab"), anchor(5), opening(5, 2)
	items := []api.Item{x, a, c}
	for _, change := range []func(*api.Item){
		func(x *api.Item) { x.Epoch++ },
		func(x *api.Item) { x.Entry.Client++ },
		func(x *api.Item) { x.Entry.Seq++ },
		func(x *api.Item) { x.Entry.Text = "ac" },
		func(x *api.Item) { x.Entry.Text = "ab\x00" },
		func(x *api.Item) { x.Entry.Text = "" },
	} {
		items = append(items, changed(x, change))
	}
	for _, change := range []func(*api.Signed){
		func(s *api.Signed) { s.Head.Region++ },
		func(s *api.Signed) { s.Head.Epoch++ },
		func(s *api.Signed) { s.Head.Size++ },
		func(s *api.Signed) { s.Head.Root[31]++ },
		func(s *api.Signed) { s.Head.Tick++ },
		func(s *api.Signed) { s.Node++ },
		func(s *api.Signed) { s.Tag[0]++ },
	} {
		items = append(items, changed(a, func(x *api.Item) { change(&x.Entry.Head) }))
	}
	var l []api.Record
	for _, change := range []func(*api.Claim){
		func(c *api.Claim) { c.Region++ },
		func(c *api.Claim) { c.Epoch++ },
		func(c *api.Claim) { c.Node++ },
		func(c *api.Claim) { c.Size++ },
		func(c *api.Claim) { c.Root[7]++ },
	} {
		items = append(items, changed(c, func(x *api.Item) { change(&x.Entry.Claim) }))
		l = append(l, claimRecord(changed(c.Entry.Claim, change)))
	}
	for _, y := range items {
		l = append(l, itemRecord(y), adoptRecord(5, 1, y), adoptRecord(6, 1, y), adoptRecord(5, 2, y))
		if y.Epoch == 5 {
			l = append(l, adoptRecord(5, 1, x, y), adoptRecord(5, 1, y, x), adoptRecord(5, 1, y, y, y))
		}
	}
	return l
}

// texts are those of records of each Kind, short ones.
func texts(t *testing.T) []string {
	t.Helper()
	var l []string
	for _, r := range slices.Concat(plainRecords(), []api.Record{
		epochRecord(1), epochRecord(900000000), itemRecord(text(258, 2, 770, "\x00\xff")), itemRecord(anchor(3)), itemRecord(opening(2, 3)),
		adoptRecord(1, 0), adoptRecord(4, 258, anchor(2), text(3, 2, 770, "\x00\xff"), opening(4, 1)), claimRecord(claim(5, 70000)),
	}) {
		l = append(l, wantLaid(t, r))
	}
	return l
}

func TestCutTexts(t *testing.T) {
	for _, s := range texts(t) {
		for n := range len(s) {
			wantRead(t, "a beginning", s[:n])
			wantRead(t, "an end", s[n+1:])
			wantRead(t, "a text with a byte less", s[:n]+s[n+1:])
		}
	}
	// A beginning may be a text only of a record that has items, of fewer of them then.
	for _, r := range []api.Record{epochRecord(9), itemRecord(text(5, 1, 1, "ab")), claimRecord(claim(1, 1)), adoptRecord(3, 0)} {
		s := wantLaid(t, r)
		for n := range len(s) {
			wantRefused(t, "a beginning", s[:n])
		}
	}
}

func TestLongerTexts(t *testing.T) {
	ends := []string{"\x00", "\x01", "\x06", "\xff", "\x00\x00\x00\x00", "\x01\x00\x00\x00", "\x06\x00\x00\x00", "\x07\x00\x00\x00", "\x07\x00\x00\x01a", strings.Repeat("\x00", 300), "x"}
	for _, s := range texts(t) {
		for _, end := range ends {
			wantRefused(t, "a longer text", s+end)
			wantRefused(t, "a text with more ahead", end+s)
		}
		wantRefused(t, "a text twice", s+s)
		for n := range len(s) {
			for _, c := range []byte{0, 1, 255} {
				wantRead(t, "a text with a byte more", s[:n]+string([]byte{c})+s[n:])
			}
		}
	}
}

func TestTurnedTexts(t *testing.T) {
	for _, s := range texts(t) {
		for at := range len(s) {
			for bit := range 8 {
				b := []byte(s)
				b[at] ^= 1 << bit
				wantRead(t, "a turned byte", string(b))
			}
			for _, c := range []byte{0, 1, 2, 3, 4, 5, 6, 7, 127, 128, 255} {
				b := []byte(s)
				b[at] = c
				wantRead(t, "another byte", string(b))
			}
		}
	}
}

func TestTextsOfNoRecord(t *testing.T) {
	for _, s := range []string{"", "x", "\x00", "\x01", "record", "1", "\x01\x00\x00\x01\x01", "\x01\x00\x00\x01\x05", strings.Repeat("\x00", 100), strings.Repeat("\xff", 100), "{}", "\n"} {
		wantRefused(t, "a text of no record", s)
	}
	for a := range 256 {
		wantRefused(t, "one byte", string([]byte{byte(a)}))
		for b := range 256 {
			wantRefused(t, "two bytes", string([]byte{byte(a), byte(b)}))
		}
	}
}

// The rest is of how the texts are laid: fields of chapter 1.

// field is a field's bytes, whatever it has.
func field(tag int, data string) string {
	n := len(data)
	return string([]byte{byte(tag), byte(n >> 16), byte(n >> 8), byte(n)}) + data
}

// number is n's bytes, worked out by the library; the sign is lost.
func number(n int) string { return string(big.NewInt(int64(n)).Bytes()) }

// parts are the fields that a text is made of.
func parts(t *testing.T, s string) []string {
	t.Helper()
	var l []string
	for len(s) > 0 {
		n := 4 + int(s[1])<<16 + int(s[2])<<8 + int(s[3])
		l = append(l, s[:n])
		s = s[n:]
	}
	return l
}

func join(l []string) string { return strings.Join(l, "") }

func TestTextsOfTheRightFields(t *testing.T) {
	for _, s := range texts(t) {
		l := parts(t, s)
		if join(l) != s || !wantRead(t, "a whole text", s) {
			t.Fatalf("P15.3: a text is not read: % x", s)
		}
		for i := range l {
			wantRead(t, "a field less", join(slices.Delete(slices.Clone(l), i, i+1)))
			for j := range l {
				wantRead(t, "a field twice", join(slices.Insert(slices.Clone(l), j, l[i])))
				other := slices.Clone(l)
				other[i], other[j] = l[j], l[i]
				if same := join(other) == s; !same && i < 5 {
					wantRefused(t, "two fields in the other order", join(other))
				}
			}
			for tag := range 256 {
				other := slices.Clone(l)
				other[i] = string([]byte{byte(tag)}) + l[i][1:]
				if join(other) != s {
					wantRefused(t, fmt.Sprintf("another tag, %d", tag), join(other))
				}
			}
			for _, data := range []string{"", "\x00", "\x00" + l[i][4:], l[i][4:] + "\x00", "\x01", "\xff\xff\xff\xff\xff\xff\xff\xff", strings.Repeat("x", 65536), strings.Repeat("x", 65537)} {
				other := slices.Clone(l)
				other[i] = field(int(l[i][0]), data)
				wantRead(t, "a field with other data", join(other))
			}
		}
	}
}

// Numbers of one field, with those beside it as they are.
func TestTextsOfOtherNumbers(t *testing.T) {
	for _, s := range texts(t) {
		l := parts(t, s)
		for i := range 3 {
			for _, n := range []int{0, 1, 2, 3, 4, 5, 255, 256, 1999, 2000, 2001, 900000000, 900000001, 1<<32 + 1, 1 << 40, 1<<62 - 1} {
				other := slices.Clone(l)
				other[i] = field(i+1, number(n))
				if wantRead(t, "another number", join(other)) {
					continue
				}
				// What is refused may not be, though it is laid well.
				if may := recordMayBe(numbered(t, s, i, n)); may {
					t.Errorf("P15.3: a text with %d in the field %d is refused: % x", n, i+1, join(other))
				}
			}
		}
	}
}

// numbered is the record of a text, with one of its three numbers changed.
func numbered(t *testing.T, s string, i, n int) api.Record {
	t.Helper()
	r, e := keep.GetRecord(s)
	if e != api.OK {
		t.Fatalf("P15.3: GetRecord is %d", e)
	}
	switch i {
	case 0:
		r.Kind = api.RecordKind(n)
	case 1:
		r.Epoch = n
	default:
		r.From = n
	}
	return r
}

// As many items as there may be, and one more; they are laid alike, so that the one more is as right as the others.
func TestTextsOfManyItems(t *testing.T) {
	for _, x := range []api.Item{user(1, 1, 1), anchor(1), text(1, 2, 3, strings.Repeat("\xff", 200))} {
		s := wantLaid(t, adoptRecord(1, 0, slices.Repeat([]api.Item{x}, 2000)...))
		l := parts(t, s)
		last := l[len(l)-1]
		wantRefused(t, "2001 items", s+last)
		wantRefused(t, "2002 items", s+last+last)
		wantRefused(t, "very many items", s+strings.Repeat(last, 50000))
		if !wantRead(t, "1999 items", strings.TrimSuffix(s, last)) {
			t.Errorf("P15.3: 1999 items are not read")
		}
	}
}
