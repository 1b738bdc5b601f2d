package entry_test

import (
	"strings"
	"testing"

	"estreat/api"
	"estreat/entry"
	"estreat/head"
)

func wantCheck(t *testing.T, e api.Entry) {
	t.Helper()
	want := api.ErrEntryForm
	if entryIsRight(e) {
		want = api.OK
	}
	if f := entry.Check(e); f != want {
		t.Errorf("P8.2: Check(%s) is %d; want %d", brief(e), f, want)
	}
}

func TestCheckOfRightAndWrongEntries(t *testing.T) {
	for _, e := range rightEntries() {
		if !entryIsRight(e) {
			t.Fatalf("%+v is meant to be right", e)
		}
		wantCheck(t, e)
	}
	for _, e := range wrongEntries() {
		if entryIsRight(e) {
			t.Fatalf("%+v is meant to be wrong", e)
		}
		wantCheck(t, e)
	}
}

func TestCheckOfUsersAtTheEdges(t *testing.T) {
	for _, x := range []struct {
		client, seq, bytes int
		want               api.Errno
	}{
		{1, 1, 0, api.OK}, {3, 1000000, 200, api.OK}, {2, 500, 1, api.OK},
		{0, 1, 0, api.ErrEntryForm}, {3, 1, 0, api.OK}, {4, 1, 0, api.ErrEntryForm}, {-1, 1, 0, api.ErrEntryForm},
		{1, 0, 0, api.ErrEntryForm}, {1, 1000000, 0, api.OK}, {1, 1000001, 0, api.ErrEntryForm}, {1, -1, 0, api.ErrEntryForm},
		{1, 1, 199, api.OK}, {1, 1, 200, api.OK}, {1, 1, 201, api.ErrEntryForm}, {1, 1, 65536, api.ErrEntryForm},
		{api.MaxClients, api.MaxSeq, api.MaxText, api.OK},
		{api.MaxClients + 1, api.MaxSeq, api.MaxText, api.ErrEntryForm},
		{api.MaxClients, api.MaxSeq + 1, api.MaxText, api.ErrEntryForm},
		{api.MaxClients, api.MaxSeq, api.MaxText + 1, api.ErrEntryForm},
	} {
		e := api.Entry{Kind: api.EntryUser, Client: x.client, Seq: x.seq, Text: strings.Repeat("\xc3", x.bytes)}
		if f := entry.Check(e); f != x.want {
			t.Errorf("P8.2: Check(client %d, seq %d, a text of %d bytes) is %d; want %d", x.client, x.seq, x.bytes, f, x.want)
		}
	}
}

// Bytes are counted, not what they tell: 200 signs of two bytes are 400.
func TestCheckCountsATextsBytes(t *testing.T) {
	if f := entry.Check(user(1, 1, strings.Repeat("é", 100))); f != api.OK {
		t.Errorf("P8.2: Check of 200 bytes of 100 signs is %d", f)
	}
	if f := entry.Check(user(1, 1, strings.Repeat("é", 101))); f != api.ErrEntryForm {
		t.Errorf("P8.2: Check of 202 bytes of 101 signs is %d", f)
	}
}

// Whoever signed: an anchor has whatever head may be, also with a tag that no key makes.
func TestCheckOfAnchorsAgreesWithHead(t *testing.T) {
	for _, s := range append(signedHeads(), noSignedHeads()...) {
		b, e := head.PutSigned(s)
		want := api.OK
		if e != api.OK {
			want = api.ErrEntryForm
		}
		if f := entry.Check(anchor(s)); f != want {
			t.Errorf("P8.2: Check of an anchor of %+v is %d; want %d", s, f, want)
		}
		if laid, f := entry.Put(anchor(s)); f != want || f == api.OK && string(laid) != "\x01\x00\x00\x01\x02"+field(5, string(b)) {
			t.Errorf("P8.2: Put of an anchor of %+v is % x, %d; want %d", s, laid, f, want)
		}
	}
}

func TestCheckOfClaimsAgreesWithCheckClaim(t *testing.T) {
	for _, c := range append(rightClaims(), wrongClaims()...) {
		if e, f := entry.Check(claimed(c)), entry.CheckClaim(c); e != f {
			t.Errorf("P8.2: Check of an entry of %+v is %d, CheckClaim is %d", c, e, f)
		}
		b, e := entry.PutClaim(c)
		if laid, f := entry.Put(claimed(c)); f != e || f == api.OK && string(laid) != "\x01\x00\x00\x01\x03"+field(6, string(b)) {
			t.Errorf("P8.2: Put of an entry of %+v is % x, %d; want %d", c, laid, f, e)
		}
	}
}

// strayEntries are wrong by one field of another kind alone: without it they are right.
func TestCheckRefusesWhatAnotherKindHas(t *testing.T) {
	count := map[api.EntryKind]int{}
	for _, e := range strayEntries() {
		count[e.Kind]++
		if f := entry.Check(e); f != api.ErrEntryForm {
			t.Errorf("P8.2: Check(%+v) is %d; want ErrEntryForm", e, f)
		}
		if b, f := entry.Put(e); len(b) != 0 || f != api.ErrEntryForm {
			t.Errorf("P8.2: Put(%+v) is % x, %d; want none, ErrEntryForm", e, b, f)
		}
		bare := api.Entry{Kind: e.Kind}
		switch e.Kind {
		case 1:
			bare.Client, bare.Seq, bare.Text = e.Client, e.Seq, e.Text
		case 2:
			bare.Head = e.Head
		case 3:
			bare.Claim = e.Claim
		}
		if f := entry.Check(bare); f != api.OK {
			t.Errorf("P8.2: Check(%+v) is %d; want OK", bare, f)
		}
	}
	for kind := range api.EntryKind(3) {
		if count[kind+1] < 300 {
			t.Errorf("only %d stray entries of kind %d", count[kind+1], kind+1)
		}
	}
}

func TestCheckAndGetOfTheChapter(t *testing.T) {
	if f := entry.Check(api.Entry{}); f != api.ErrEntryForm {
		t.Errorf("P8.2: Check(zero) is %d", f)
	}
	if e, f := entry.Get(nil); e != (api.Entry{}) || f != api.ErrEntryForm {
		t.Errorf("P8.2: Get(none) is %+v, %d", e, f)
	}
}

// Each kind's bytes, written out.
var writtenEntries = []struct {
	entry api.Entry
	want  string
}{
	{api.Entry{Kind: api.EntryUser, Client: 1, Seq: 2, Text: "ab"}, "\x01\x00\x00\x01\x01" + "\x02\x00\x00\x01\x01" + "\x03\x00\x00\x01\x02" + "\x04\x00\x00\x02ab"},
	{api.Entry{Kind: api.EntryUser, Client: 1, Seq: 1}, "\x01\x00\x00\x01\x01" + "\x02\x00\x00\x01\x01" + "\x03\x00\x00\x01\x01" + "\x04\x00\x00\x00"},
	{api.Entry{Kind: api.EntryUser, Client: 3, Seq: 1000000, Text: strings.Repeat("\xff", 200)}, "\x01\x00\x00\x01\x01" + "\x02\x00\x00\x01\x03" + "\x03\x00\x00\x03\x0f\x42\x40" + "\x04\x00\x00\xc8" + strings.Repeat("\xff", 200)},
	{api.Entry{Kind: api.EntryUser, Client: 2, Seq: 770, Text: "\x00\xff\x00"}, "\x01\x00\x00\x01\x01" + "\x02\x00\x00\x01\x02" + "\x03\x00\x00\x02\x03\x02" + "\x04\x00\x00\x03\x00\xff\x00"},
	{api.Entry{Kind: api.EntryAnchor, Head: leastSigned()}, "\x01\x00\x00\x01\x02" + "\x05\x00\x00\x63" +
		"\x01\x00\x00\x36" + "\x01\x00\x00\x01\x01" + "\x02\x00\x00\x01\x01" + "\x03\x00\x00\x00" + "\x04\x00\x00\x20" + zeros + "\x05\x00\x00\x00" +
		"\x02\x00\x00\x01\x01" + "\x03\x00\x00\x20" + zeros},
	{api.Entry{Kind: api.EntryAnchor, Head: greatestSigned()}, "\x01\x00\x00\x01\x02" + "\x05\x00\x00\x6d" +
		"\x01\x00\x00\x40" + "\x01\x00\x00\x01\x05" + "\x02\x00\x00\x04\x35\xa4\xe9\x00" + "\x03\x00\x00\x03\x01\x86\xa0" + "\x04\x00\x00\x20" + ones + "\x05\x00\x00\x04\x35\xa4\xe9\x00" +
		"\x02\x00\x00\x01\x03" + "\x03\x00\x00\x20" + ones},
	{api.Entry{Kind: api.EntryAnchor, Head: plainSigned()}, "\x01\x00\x00\x01\x02" + "\x05\x00\x00\x6b" +
		"\x01\x00\x00\x3e" + "\x01\x00\x00\x01\x03" + "\x02\x00\x00\x02\x01\x03" + "\x03\x00\x00\x03\x01\x11\x74" + "\x04\x00\x00\x20" + rise80 + "\x05\x00\x00\x04\x01\x02\x03\x04" +
		"\x02\x00\x00\x01\x02" + "\x03\x00\x00\x20" + rise120},
	{api.Entry{Kind: api.EntryClaim, Claim: leastClaim()}, "\x01\x00\x00\x01\x03" + "\x06\x00\x00\x37" +
		"\x01\x00\x00\x01\x01" + "\x02\x00\x00\x01\x01" + "\x03\x00\x00\x01\x01" + "\x04\x00\x00\x00" + "\x05\x00\x00\x20" + zeros},
	{api.Entry{Kind: api.EntryClaim, Claim: greatestClaim()}, "\x01\x00\x00\x01\x03" + "\x06\x00\x00\x3d" +
		"\x01\x00\x00\x01\x05" + "\x02\x00\x00\x04\x35\xa4\xe9\x00" + "\x03\x00\x00\x01\x03" + "\x04\x00\x00\x03\x01\x86\xa0" + "\x05\x00\x00\x20" + ones},
	{api.Entry{Kind: api.EntryClaim, Claim: plainClaim()}, "\x01\x00\x00\x01\x03" + "\x06\x00\x00\x3b" +
		"\x01\x00\x00\x01\x04" + "\x02\x00\x00\x02\x01\x02" + "\x03\x00\x00\x01\x02" + "\x04\x00\x00\x03\x01\x11\x73" + "\x05\x00\x00\x20" + rise40},
}

func TestPutByteByByte(t *testing.T) {
	for _, x := range writtenEntries {
		if b, e := entry.Put(x.entry); string(b) != x.want || e != api.OK {
			t.Errorf("P8.2: Put(%+v) is % x, %d; want % x", x.entry, b, e, x.want)
		}
		if got, e := entry.Get([]byte(x.want)); got != x.entry || e != api.OK {
			t.Errorf("P8.2: Get(% x) is %+v, %d; want %+v", x.want, got, e, x.entry)
		}
	}
}

func TestAllEdgesOfUsersTogetherAreLaidAndRead(t *testing.T) {
	for client := 1; client <= 3; client++ {
		for _, seq := range seqs {
			for _, text := range texts() {
				x := user(client, seq, text)
				b, e := entry.Put(x)
				if back, f := entry.Get(b); back != x || string(b) != join(entryParts(x)) || e != api.OK || f != api.OK {
					t.Fatalf("P8.4: %+v is laid as % x, %d, and read as %+v, %d", x, b, e, back, f)
				}
			}
		}
	}
}

func TestEveryLengthAndByteOfATextIsLaidAndRead(t *testing.T) {
	k := entryThing()
	for n := range 202 {
		text := allBytes(n)
		if n <= 200 {
			k.wantPut(t, user(1, 1, text), join(entryParts(user(1, 1, text))))
		}
		k.wantGet(t, "a text", join(entryParts(user(1, 1, text))))
	}
	for c := range 256 {
		for _, text := range []string{string([]byte{byte(c)}), strings.Repeat(string([]byte{byte(c)}), 200)} {
			k.wantPut(t, user(3, 9, text), join(entryParts(user(3, 9, text))))
			k.wantGet(t, "a text", join(entryParts(user(3, 9, text))))
		}
	}
}

// Each kind's first field with each kind's others.
func TestGetRefusesFieldsOfAnotherKind(t *testing.T) {
	k := entryThing()
	for _, one := range ends() {
		for _, other := range ends() {
			if one.Kind == other.Kind {
				continue
			}
			l, m := entryParts(one), entryParts(other)
			k.refuses(t, "another kind's fields", l[0]+join(m[1:]))
			for i, part := range m[1:] {
				k.refuses(t, "a field of another kind", l[0]+part)
				if one.Kind > other.Kind {
					k.refuses(t, "a field of another kind ahead", l[0]+part+join(l[1:]))
					k.refuses(t, "fields of another kind ahead", l[0]+join(m[1:i+2])+join(l[1:]))
				} else {
					k.refuses(t, "a field of another kind behind", join(l)+part)
				}
				tag := int(part[0])
				k.refuses(t, "an empty field of another kind", inOrder(l, field(tag, "")))
				k.refuses(t, "a byte 0 in a field of another kind", inOrder(l, field(tag, "\x00")))
				k.refuses(t, "a byte 1 in a field of another kind", inOrder(l, field(tag, "\x01")))
				k.refuses(t, "65536 bytes in a field of another kind", inOrder(l, field(tag, strings.Repeat("\x01", 65536))))
			}
		}
		for n := range 256 {
			if api.EntryKind(n) != one.Kind {
				k.refuses(t, "of another kind", with(entryParts(one), 0, field(1, number(n))))
			}
		}
	}
	u, a, c := entryParts(ends()[0]), entryParts(ends()[1]), entryParts(ends()[2])
	for kind := range 7 {
		k.refuses(t, "all fields", field(1, number(kind))+join(u[1:])+a[1]+c[1])
		k.refuses(t, "no field but the kind", field(1, number(kind)))
	}
}

// inOrder is l with a part that stands ahead of the first of a greater tag.
func inOrder(l []string, part string) string {
	for i := range l {
		if l[i][0] > part[0] {
			return join(l[:i]) + part + join(l[i:])
		}
	}
	return join(l) + part
}

func TestGetRefusesNumbersOfOtherBytes(t *testing.T) {
	k := entryThing()
	for _, e := range rightEntries() {
		l := entryParts(e)
		numbers := []int{int(e.Kind)}
		if e.Kind == 1 {
			numbers = append(numbers, e.Client, e.Seq)
		}
		for i, n := range numbers {
			k.refuses(t, "no number", with(l, i, field(i+1, "")))
			for why, data := range otherNumbers(n) {
				k.refuses(t, why, with(l, i, field(i+1, data)))
			}
		}
	}
}

// All of these are well formed rows of their kind's tags.
func TestGetRefusesEntriesThatAreNotRight(t *testing.T) {
	k := entryThing()
	for _, n := range noKinds {
		if n >= 0 {
			for _, e := range ends() {
				k.refuses(t, "a wrong kind", with(entryParts(e), 0, field(1, number(n))))
			}
		}
	}
	l := entryParts(ends()[0])
	for _, n := range noClients {
		if n >= 0 {
			k.refuses(t, "a wrong client", with(l, 1, field(2, number(n))))
		}
	}
	for _, n := range noSeqs {
		if n >= 0 {
			k.refuses(t, "a wrong seq", with(l, 2, field(3, number(n))))
		}
	}
	for _, s := range noTexts() {
		k.refuses(t, "a wrong text", with(l, 3, field(4, s)))
	}
	for _, s := range noSignedHeads() {
		h := s.Head
		if h.Region >= 0 && h.Epoch >= 0 && h.Size >= 0 && h.Tick >= 0 && s.Node >= 0 {
			k.refuses(t, "a head that may not be", join(entryParts(anchor(s))))
		}
	}
	for _, c := range wrongClaims() {
		if c.Region >= 0 && c.Epoch >= 0 && c.Node >= 0 && c.Size >= 0 {
			k.refuses(t, "a wrong claim", join(entryParts(claimed(c))))
		}
	}
}

// spoiltRows are data that a row of these parts is not, though it may begin or end like it.
func spoiltRows(l []string) []string {
	s := join(l)
	spoilt := []string{s + "\x00", "\x00" + s, s + s, s + field(9, ""), field(1, s), field(1, "") + s, strings.Repeat("\x01", 65536)}
	for n := range len(s) {
		spoilt = append(spoilt, s[:n], s[n+1:])
	}
	for i := range l {
		spoilt = append(spoilt, with(l, i, ""), with(l, i, l[i]+l[i]), with(l, i, field(int(l[i][0]), "\x00"+dataOf(l[i]))), with(l, i, field(int(l[i][0]), dataOf(l[i])+"\x00")))
		for j := range i {
			spoilt = append(spoilt, join(l[:j])+l[i]+join(l[j+1:i])+l[j]+join(l[i+1:]))
		}
		for c := range 256 {
			if c != int(l[i][0]) {
				spoilt = append(spoilt, with(l, i, string([]byte{byte(c)})+l[i][1:]))
			}
		}
	}
	return spoilt
}

// The outer rows are well formed in all of these.
func TestGetRefusesAnchorsWithoutAHead(t *testing.T) {
	k := entryThing()
	for _, s := range []api.Signed{leastSigned(), greatestSigned(), plainSigned()} {
		for _, data := range spoiltRows(signedParts(s)) {
			k.wantGet(t, "no head", field(1, "\x02")+field(5, data))
		}
		for _, data := range spoiltRows(headParts(s.Head)) {
			k.wantGet(t, "no head", field(1, "\x02")+field(5, with(signedParts(s), 0, field(1, data))))
		}
		k.refuses(t, "no byte", field(1, "\x02")+field(5, ""))
		k.refuses(t, "a head that is not signed", field(1, "\x02")+field(5, join(headParts(s.Head))))
		k.refuses(t, "a claim", field(1, "\x02")+field(5, join(claimParts(plainClaim()))))
		k.refuses(t, "an entry", field(1, "\x02")+field(5, join(entryParts(anchor(s)))))
		for _, n := range []int{31, 33} {
			digest := strings.Repeat("\x07", n)
			k.refuses(t, "a tag of another length", field(1, "\x02")+field(5, with(signedParts(s), 2, field(3, digest))))
			k.refuses(t, "a root of another length", field(1, "\x02")+field(5, with(signedParts(s), 0, field(1, with(headParts(s.Head), 3, field(4, digest))))))
		}
	}
}

func TestGetRefusesClaimsWithoutAClaim(t *testing.T) {
	k := entryThing()
	for _, c := range []api.Claim{leastClaim(), greatestClaim(), plainClaim()} {
		for _, data := range spoiltRows(claimParts(c)) {
			k.wantGet(t, "no claim", field(1, "\x03")+field(6, data))
		}
		k.refuses(t, "no byte", field(1, "\x03")+field(6, ""))
		k.refuses(t, "a head", field(1, "\x03")+field(6, join(signedParts(plainSigned()))))
		k.refuses(t, "an entry", field(1, "\x03")+field(6, join(entryParts(claimed(c)))))
		for _, n := range []int{31, 33} {
			k.refuses(t, "a root of another length", field(1, "\x03")+field(6, with(claimParts(c), 4, field(5, strings.Repeat("\x07", n)))))
		}
	}
}

func FuzzGet(f *testing.F) {
	for _, e := range rightEntries() {
		f.Add([]byte(join(entryParts(e))))
	}
	f.Add([]byte{})
	f.Add([]byte(join(entryParts(api.Entry{}))))
	k := entryThing()
	f.Fuzz(func(t *testing.T, b []byte) {
		k.wantGet(t, "made up", string(b))
	})
}

func FuzzPut(f *testing.F) {
	f.Add(1, 1, 1, "text", 0, 0, 0, 0, "", 0, 0, 0)
	f.Add(2, 0, 0, "", 1, 2, 3, 1, "\x07", 0, 0, 0)
	f.Add(3, 0, 0, "", 0, 0, 0, 0, "", 2, 5, 3)
	f.Add(4, 1, 1, "text", 1, 2, 3, 1, "\x07", 2, 5, 3)
	k := entryThing()
	f.Fuzz(func(t *testing.T, kind, client, seq int, text string, region, epoch, size, node int, tag string, claimRegion, claimEpoch, claimNode int) {
		e := api.Entry{Kind: api.EntryKind(kind), Client: client, Seq: seq, Text: text}
		e.Head = api.Signed{Head: api.Head{Region: region, Epoch: epoch, Size: size}, Node: node}
		copy(e.Head.Tag[:], tag)
		e.Claim = api.Claim{Region: claimRegion, Epoch: claimEpoch, Node: claimNode}
		wantCheck(t, e)
		if entryIsRight(e) {
			k.wantPut(t, e, join(entryParts(e)))
		} else if b, f := entry.Put(e); len(b) != 0 || f != api.ErrEntryForm {
			t.Errorf("P8.2: Put(%s) is % x, %d", brief(e), b, f)
		}
	})
}
