package head_test

import (
	"strings"
	"testing"

	"estreat/api"
	"estreat/head"
)

func wantGetSigned(t *testing.T, why, s string) {
	t.Helper()
	want, there := signedIn(s)
	code := api.ErrHeadForm
	if there {
		code = api.OK
	}
	if x, e := head.GetSigned([]byte(s)); x != want || e != code {
		t.Errorf("P7.3: %s: GetSigned(% .300x) is %+v, %d; want %+v, %d", why, s, x, e, want, code)
	}
}

func refusesSigned(t *testing.T, why, s string) {
	t.Helper()
	if x, e := head.GetSigned([]byte(s)); x != (api.Signed{}) || e != api.ErrHeadForm {
		t.Errorf("P7.3: %s: GetSigned(% .300x) is %+v, %d; want zero, ErrHeadForm", why, s, x, e)
	}
}

func TestPutSignedByteByByte(t *testing.T) {
	const ones = "\xff\xff\xff\xff\xff\xff\xff\xff\xff\xff\xff\xff\xff\xff\xff\xff\xff\xff\xff\xff\xff\xff\xff\xff\xff\xff\xff\xff\xff\xff\xff\xff"
	const zeros = "\x00\x00\x00\x00\x00\x00\x00\x00\x00\x00\x00\x00\x00\x00\x00\x00\x00\x00\x00\x00\x00\x00\x00\x00\x00\x00\x00\x00\x00\x00\x00\x00"
	const rise = "\x28\x29\x2a\x2b\x2c\x2d\x2e\x2f\x30\x31\x32\x33\x34\x35\x36\x37\x38\x39\x3a\x3b\x3c\x3d\x3e\x3f\x40\x41\x42\x43\x44\x45\x46\x47"
	for _, x := range []struct {
		signed api.Signed
		want   string
	}{
		{api.Signed{Head: least(), Node: 1}, "\x01\x00\x00\x36" +
			"\x01\x00\x00\x01\x01" + "\x02\x00\x00\x01\x01" + "\x03\x00\x00\x00" + "\x04\x00\x00\x20" + zeros + "\x05\x00\x00\x00" +
			"\x02\x00\x00\x01\x01" + "\x03\x00\x00\x20" + zeros},
		{api.Signed{Head: greatest(), Node: 3, Tag: rising(40)}, "\x01\x00\x00\x40" +
			"\x01\x00\x00\x01\x05" + "\x02\x00\x00\x04\x35\xa4\xe9\x00" + "\x03\x00\x00\x03\x01\x86\xa0" + "\x04\x00\x00\x20" + ones + "\x05\x00\x00\x04\x35\xa4\xe9\x00" +
			"\x02\x00\x00\x01\x03" + "\x03\x00\x00\x20" + rise},
		{api.Signed{Head: plain(), Node: 2, Tag: filled(255)}, "\x01\x00\x00\x3e" +
			"\x01\x00\x00\x01\x02" + "\x02\x00\x00\x02\x01\x02" + "\x03\x00\x00\x03\x01\x11\x73" + "\x04\x00\x00\x20" + rise + "\x05\x00\x00\x04\x01\x02\x03\x04" +
			"\x02\x00\x00\x01\x02" + "\x03\x00\x00\x20" + ones},
	} {
		if b, e := head.PutSigned(x.signed); string(b) != x.want || e != api.OK {
			t.Errorf("P7.3: PutSigned(%+v) is % x, %d; want % x", x.signed, b, e, x.want)
		}
		if s, e := head.GetSigned([]byte(x.want)); s != x.signed || e != api.OK {
			t.Errorf("P7.3: GetSigned(% x) is %+v, %d; want %+v", x.want, s, e, x.signed)
		}
	}
}

// Bytes are laid and read whatever the tag is: only Verify has a key.
func TestSignedHeadsAreLaidAndRead(t *testing.T) {
	signedBy := map[string]api.Signed{}
	for _, s := range unsigned() {
		want := join(signedParts(s))
		b, e := head.PutSigned(s)
		if string(b) != want || e != api.OK {
			t.Errorf("P7.3: PutSigned(%+v) is % x, %d; want % x", s, b, e, want)
		}
		if back, e := head.GetSigned([]byte(want)); back != s || e != api.OK {
			t.Errorf("P7.4: GetSigned of %+v's bytes is %+v, %d", s, back, e)
		}
		if other, there := signedBy[string(b)]; there && other != s {
			t.Errorf("P7.4: %+v and %+v have the same bytes % x", s, other, b)
		}
		signedBy[string(b)] = s
	}
}

func TestPutSignedRefusesWhatMayNotBe(t *testing.T) {
	for _, s := range impossible(rising(0)) {
		if b, e := head.PutSigned(s); len(b) != 0 || e != api.ErrHeadForm {
			t.Errorf("P7.3: PutSigned(%+v) is % x, %d; want none, ErrHeadForm", s, b, e)
		}
	}
}

// The bytes that these would have are well formed, in both rows.
func TestGetSignedRefusesWhatMayNotBe(t *testing.T) {
	for _, s := range impossible(rising(0)) {
		h := s.Head
		if h.Region < 0 || h.Epoch < 0 || h.Size < 0 || h.Tick < 0 || s.Node < 0 {
			continue // It has no bytes.
		}
		refusesSigned(t, "may not be", join(signedParts(s)))
	}
}

func TestGetSignedRefusesNoBytes(t *testing.T) {
	for _, b := range [][]byte{nil, {}, make([]byte, 0, 200)} {
		if s, e := head.GetSigned(b); s != (api.Signed{}) || e != api.ErrHeadForm {
			t.Errorf("P7.3: GetSigned of no bytes is %+v, %d", s, e)
		}
	}
}

func TestGetSignedRefusesBytesThatAreCut(t *testing.T) {
	for _, x := range unsigned() {
		s := join(signedParts(x))
		for n := range len(s) {
			refusesSigned(t, "cut behind", s[:n])
			refusesSigned(t, "cut ahead", s[n+1:])
			wantGetSigned(t, "a byte taken out", s[:n]+s[n+1:])
		}
	}
}

func TestGetSignedRefusesMoreBytes(t *testing.T) {
	for _, x := range unsigned() {
		s := join(signedParts(x))
		for c := range 256 {
			one := string([]byte{byte(c)})
			refusesSigned(t, "a byte behind", s+one)
			refusesSigned(t, "a byte ahead", one+s)
			refusesSigned(t, "a field behind", s+field(c, ""))
			refusesSigned(t, "a field with a byte behind", s+field(c, "\x01"))
			refusesSigned(t, "a field ahead", field(c, "")+s)
		}
		refusesSigned(t, "twice", s+s)
		refusesSigned(t, "many bytes behind", s+strings.Repeat("\x00", 1000))
		refusesSigned(t, "a field of 65536 bytes behind", s+field(4, strings.Repeat("b", 65536)))
	}
	s := join(signedParts(api.Signed{Head: plain(), Node: 2, Tag: rising(9)}))
	for n := range len(s) + 1 {
		for _, c := range []string{"\x00", "\x01", "\x20", "\xff"} {
			wantGetSigned(t, "a byte put in", s[:n]+c+s[n:])
		}
	}
}

func TestGetSignedOfEveryByteTurned(t *testing.T) {
	for _, x := range []api.Signed{{Head: least(), Node: 1}, {Head: greatest(), Node: 3, Tag: filled(255)}, {Head: plain(), Node: 2, Tag: rising(9)}} {
		s := join(signedParts(x))
		read := 0
		for at := range len(s) {
			for c := range 256 {
				b := []byte(s)
				b[at] = byte(c)
				wantGetSigned(t, "a byte turned", string(b))
				if got, e := head.GetSigned(b); e == api.OK {
					read++
					if back, f := head.PutSigned(got); string(back) != string(b) || f != api.OK || (got == x) != (string(b) == s) {
						t.Errorf("P7.4: % x is read as %+v, and laid as % x, %d", b, got, back, f)
					}
				}
			}
		}
		if read < 256*64 {
			t.Errorf("P7.3: of the bytes of %+v only %d are read with one turned", x, read)
		}
	}
}

func TestGetSignedRefusesFieldsElsewhere(t *testing.T) {
	for _, x := range unsigned() {
		l := signedParts(x)
		for i := range l {
			refusesSigned(t, "missing", with(l, i, ""))
			refusesSigned(t, "doubled", with(l, i, l[i]+l[i]))
			refusesSigned(t, "empty of tag 0", with(l, i, "\x00\x00\x00\x00"))
			for j := range i {
				m := signedParts(x)
				m[i], m[j] = m[j], m[i]
				refusesSigned(t, "in another order", join(m))
			}
			for c := range 256 {
				if c != i+1 {
					refusesSigned(t, "of another tag", with(l, i, string([]byte{byte(c)})+l[i][1:]))
				}
			}
		}
		for n := range l {
			refusesSigned(t, "the first ones", join(l[:n]))
			refusesSigned(t, "the last ones", join(l[n+1:]))
		}
	}
	x := unsigned()[0]
	datas := []string{join(parts(x.Head)), number(x.Node), string(x.Tag[:])}
	for _, tags := range [][]int{{2, 3, 4}, {1, 2, 4}, {1, 3, 4}, {1, 2, 255}, {11, 12, 13}, {0, 1, 2}} {
		refusesSigned(t, "of other tags", field(tags[0], datas[0])+field(tags[1], datas[1])+field(tags[2], datas[2]))
	}
}

func TestGetSignedRefusesNodesOfOtherBytes(t *testing.T) {
	for _, x := range unsigned() {
		l := signedParts(x)
		for zeros := 1; zeros <= 9; zeros++ {
			refusesSigned(t, "bytes 0 ahead", with(l, 1, field(2, strings.Repeat("\x00", zeros)+number(x.Node))))
		}
		for why, data := range map[string]string{
			"no byte":                       "",
			"a byte 0":                      "\x00",
			"4":                             "\x04",
			"255":                           "\xff",
			"a higher byte":                 "\x01" + number(x.Node),
			"higher bytes":                  "\x01\x00\x00\x00" + number(x.Node),
			"eight bytes 255":               "\xff\xff\xff\xff\xff\xff\xff\xff",
			"2 to the 62":                   "\x40\x00\x00\x00\x00\x00\x00\x00",
			"2 to the 64 and what is right": "\x01\x00\x00\x00\x00\x00\x00\x00" + number(x.Node),
			"a digit":                       "1",
			"a tag":                         string(x.Tag[:]),
		} {
			refusesSigned(t, why, with(l, 1, field(2, data)))
		}
	}
}

func TestGetSignedRefusesTagsOfOtherLengths(t *testing.T) {
	for _, x := range unsigned() {
		l, tag := signedParts(x), string(x.Tag[:])
		for n := range 32 {
			refusesSigned(t, "a tag's beginning", with(l, 2, field(3, tag[:n])))
			refusesSigned(t, "a tag's end", with(l, 2, field(3, tag[n+1:])))
		}
		for _, more := range []string{"\x00", "\xff", tag, strings.Repeat("\x00", 65536-32)} {
			refusesSigned(t, "a tag and more", with(l, 2, field(3, tag+more)))
			refusesSigned(t, "more and a tag", with(l, 2, field(3, more+tag)))
		}
	}
}

// The outer row is well formed in all of these; what its first field has are no head's bytes.
func TestGetSignedRefusesWhatHasNoHead(t *testing.T) {
	x := api.Signed{Head: plain(), Node: 2, Tag: rising(9)}
	l, text := signedParts(x), join(parts(x.Head))
	inner := parts(x.Head)
	root := string(x.Head.Root[:])
	for why, data := range map[string]string{
		"no byte":               "",
		"a byte":                "\x01",
		"a byte behind":         text + "\x00",
		"a byte ahead":          "\x00" + text,
		"a field behind":        text + field(6, ""),
		"twice":                 text + text,
		"in a row":              field(1, text),
		"signed":                join(l),
		"the root":              root,
		"a root of 31 bytes":    with(inner, 3, field(4, root[:31])),
		"a root of 33 bytes":    with(inner, 3, field(4, root+"\x00")),
		"a byte 0 ahead":        with(inner, 0, field(1, "\x00\x02")),
		"no region":             with(inner, 0, field(1, "")),
		"region 6":              with(inner, 0, field(1, "\x06")),
		"no epoch":              with(inner, 1, field(2, "")),
		"an epoch too great":    with(inner, 1, field(2, number(900000001))),
		"a size too great":      with(inner, 2, field(3, number(100001))),
		"a tick too great":      with(inner, 4, field(5, number(900000001))),
		"65536 bytes":           strings.Repeat("\x01", 65536),
		"the marked text":       "head " + text,
		"fields the wrong way":  with(inner, 0, inner[1]+inner[0]),
		"the zero head's bytes": join(parts(api.Head{})),
	} {
		refusesSigned(t, why, with(l, 0, field(1, data)))
	}
	for n := range len(text) {
		refusesSigned(t, "a head that is cut", with(l, 0, field(1, text[:n])))
		refusesSigned(t, "a head cut ahead", with(l, 0, field(1, text[n+1:])))
	}
	for i := range inner {
		refusesSigned(t, "a field missing", with(l, 0, field(1, with(inner, i, ""))))
		refusesSigned(t, "a field doubled", with(l, 0, field(1, with(inner, i, inner[i]+inner[i]))))
	}
	refusesSigned(t, "a head of 65537 bytes", with(l, 0, field(1, strings.Repeat("\x01", 65537))))
}

// A head's bytes are no signed one's, and the other way round.
func TestHeadsAndSignedOnesAreKeptApart(t *testing.T) {
	for _, x := range unsigned() {
		refusesSigned(t, "a head", join(parts(x.Head)))
		refuses(t, "a signed head", join(signedParts(x)))
	}
}

func FuzzGetSigned(f *testing.F) {
	for _, x := range unsigned() {
		f.Add([]byte(join(signedParts(x))))
	}
	f.Add([]byte{})
	f.Add([]byte(join(signedParts(api.Signed{}))))
	f.Fuzz(func(t *testing.T, b []byte) {
		wantGetSigned(t, "made up", string(b))
	})
}
