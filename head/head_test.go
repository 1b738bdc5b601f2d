package head_test

import (
	"strings"
	"testing"

	"estreat/api"
	"estreat/head"
)

func wantCheck(t *testing.T, h api.Head) {
	t.Helper()
	want := api.ErrHeadForm
	if isRight(h) {
		want = api.OK
	}
	if e := head.Check(h); e != want {
		t.Errorf("P7.1: Check(%+v) is %d; want %d", h, e, want)
	}
}

func wantPut(t *testing.T, h api.Head, want string) {
	t.Helper()
	if b, e := head.Put(h); string(b) != want || e != api.OK {
		t.Errorf("P7.1: Put(%+v) is % x, %d; want % x", h, b, e, want)
	}
}

// wantGet holds Get against the head whose bytes s are, or ErrHeadForm if there is none.
func wantGet(t *testing.T, why, s string) {
	t.Helper()
	want, there := headIn(s)
	code := api.ErrHeadForm
	if there {
		code = api.OK
	}
	if h, e := head.Get([]byte(s)); h != want || e != code {
		t.Errorf("P7.1: %s: Get(% .200x) is %+v, %d; want %+v, %d", why, s, h, e, want, code)
	}
}

func refuses(t *testing.T, why, s string) {
	t.Helper()
	if h, e := head.Get([]byte(s)); h != (api.Head{}) || e != api.ErrHeadForm {
		t.Errorf("P7.1: %s: Get(% .200x) is %+v, %d; want zero, ErrHeadForm", why, s, h, e)
	}
}

func TestCheckOfRightAndWrongHeads(t *testing.T) {
	for _, h := range rightHeads() {
		if !isRight(h) {
			t.Fatalf("%+v is meant to be right", h)
		}
		wantCheck(t, h)
	}
	for _, h := range wrongHeads() {
		if isRight(h) {
			t.Fatalf("%+v is meant to be wrong", h)
		}
		wantCheck(t, h)
	}
}

func TestCheckAtTheEdges(t *testing.T) {
	for _, x := range []struct {
		region, epoch, size, tick int
		want                      api.Errno
	}{
		{1, 1, 0, 0, api.OK}, {5, 900000000, 100000, 900000000, api.OK},
		{0, 1, 0, 0, api.ErrHeadForm}, {6, 1, 0, 0, api.ErrHeadForm}, {5, 1, 0, 0, api.OK},
		{1, 0, 0, 0, api.ErrHeadForm}, {1, 900000000, 0, 0, api.OK}, {1, 900000001, 0, 0, api.ErrHeadForm},
		{1, 1, -1, 0, api.ErrHeadForm}, {1, 1, 100000, 0, api.OK}, {1, 1, 100001, 0, api.ErrHeadForm},
		{1, 1, 0, -1, api.ErrHeadForm}, {1, 1, 0, 900000000, api.OK}, {1, 1, 0, 900000001, api.ErrHeadForm},
		{0, 0, 0, 0, api.ErrHeadForm}, {-1, -1, -1, -1, api.ErrHeadForm},
		// What one field may be, another one may not.
		{1, 1, 900000000, 0, api.ErrHeadForm}, {100000, 1, 0, 0, api.ErrHeadForm},
		{api.MaxRegions, api.MaxEpoch, api.MaxSize, api.MaxTick, api.OK},
		{api.MaxRegions + 1, api.MaxEpoch, api.MaxSize, api.MaxTick, api.ErrHeadForm},
		{api.MaxRegions, api.MaxEpoch + 1, api.MaxSize, api.MaxTick, api.ErrHeadForm},
		{api.MaxRegions, api.MaxEpoch, api.MaxSize + 1, api.MaxTick, api.ErrHeadForm},
		{api.MaxRegions, api.MaxEpoch, api.MaxSize, api.MaxTick + 1, api.ErrHeadForm},
	} {
		h := api.Head{Region: x.region, Epoch: x.epoch, Size: x.size, Tick: x.tick}
		if e := head.Check(h); e != x.want {
			t.Errorf("P7.1: Check(%+v) is %d; want %d", h, e, x.want)
		}
	}
}

// A root may be any digest, whatever the size.
func TestCheckTakesAnyRoot(t *testing.T) {
	for _, d := range roots() {
		for _, n := range sizes {
			wantCheck(t, api.Head{Region: 3, Epoch: 1, Size: n, Root: d})
		}
	}
}

func TestPutOfTheChapter(t *testing.T) {
	const want = "\x01\x00\x00\x01\x01" + "\x02\x00\x00\x01\x01" + "\x03\x00\x00\x00" + "\x04\x00\x00\x20" +
		"\x00\x00\x00\x00\x00\x00\x00\x00\x00\x00\x00\x00\x00\x00\x00\x00\x00\x00\x00\x00\x00\x00\x00\x00\x00\x00\x00\x00\x00\x00\x00\x00" + "\x05\x00\x00\x00"
	if len(want) != 54 {
		t.Fatalf("the chapter tells 54 bytes, not %d", len(want))
	}
	wantPut(t, api.Head{Region: 1, Epoch: 1}, want)
	if h, e := head.Get([]byte(want)); h != (api.Head{Region: 1, Epoch: 1}) || e != api.OK {
		t.Errorf("P7.1: Get of the chapter's bytes is %+v, %d", h, e)
	}
	refuses(t, "the chapter's, without its last byte", want[:53])
	if e := head.Check(api.Head{}); e != api.ErrHeadForm {
		t.Errorf("P7.1: Check(zero) is %d", e)
	}
}

func TestPutByteByByte(t *testing.T) {
	const ones = "\xff\xff\xff\xff\xff\xff\xff\xff\xff\xff\xff\xff\xff\xff\xff\xff\xff\xff\xff\xff\xff\xff\xff\xff\xff\xff\xff\xff\xff\xff\xff\xff"
	const rise = "\x28\x29\x2a\x2b\x2c\x2d\x2e\x2f\x30\x31\x32\x33\x34\x35\x36\x37\x38\x39\x3a\x3b\x3c\x3d\x3e\x3f\x40\x41\x42\x43\x44\x45\x46\x47"
	wantPut(t, greatest(), "\x01\x00\x00\x01\x05"+"\x02\x00\x00\x04\x35\xa4\xe9\x00"+"\x03\x00\x00\x03\x01\x86\xa0"+"\x04\x00\x00\x20"+ones+"\x05\x00\x00\x04\x35\xa4\xe9\x00")
	wantPut(t, plain(), "\x01\x00\x00\x01\x02"+"\x02\x00\x00\x02\x01\x02"+"\x03\x00\x00\x03\x01\x11\x73"+"\x04\x00\x00\x20"+rise+"\x05\x00\x00\x04\x01\x02\x03\x04")
}

func TestHeadsAreLaidAndRead(t *testing.T) {
	for _, h := range rightHeads() {
		s := join(parts(h))
		wantPut(t, h, s)
		if got, e := head.Get([]byte(s)); got != h || e != api.OK {
			t.Errorf("P7.4: Get of %+v's bytes is %+v, %d", h, got, e)
		}
	}
}

func TestAllEdgesTogetherAreLaidAndRead(t *testing.T) {
	for region := 1; region <= 5; region++ {
		for _, epoch := range epochs {
			for _, size := range sizes {
				for i, tick := range ticks {
					h := api.Head{Region: region, Epoch: epoch, Size: size, Root: roots()[i%len(roots())], Tick: tick}
					b, e := head.Put(h)
					if back, f := head.Get(b); back != h || string(b) != join(parts(h)) || e != api.OK || f != api.OK {
						t.Fatalf("P7.4: %+v is laid as % x, %d, and read as %+v, %d", h, b, e, back, f)
					}
				}
			}
		}
	}
}

func TestUnlikeHeadsHaveUnlikeBytes(t *testing.T) {
	headOf := map[string]api.Head{}
	for _, h := range rightHeads() {
		b, e := head.Put(h)
		if other, there := headOf[string(b)]; there && other != h || e != api.OK {
			t.Errorf("P7.4: %+v and %+v have the same bytes % x, %d", h, other, b, e)
		}
		headOf[string(b)] = h
	}
}

func TestPutRefusesWrongHeads(t *testing.T) {
	for _, h := range wrongHeads() {
		if b, e := head.Put(h); len(b) != 0 || e != api.ErrHeadForm {
			t.Errorf("P7.1: Put(%+v) is % x, %d; want none, ErrHeadForm", h, b, e)
		}
	}
}

// The bytes that a wrong head would have are well formed, and no head's.
func TestGetRefusesWrongHeads(t *testing.T) {
	for _, h := range wrongHeads() {
		if h.Region < 0 || h.Epoch < 0 || h.Size < 0 || h.Tick < 0 {
			continue // It has no bytes.
		}
		refuses(t, "a wrong head", join(parts(h)))
	}
}

func TestGetRefusesNoBytes(t *testing.T) {
	for _, b := range [][]byte{nil, {}, make([]byte, 0, 100)} {
		if h, e := head.Get(b); h != (api.Head{}) || e != api.ErrHeadForm {
			t.Errorf("P7.1: Get of no bytes is %+v, %d", h, e)
		}
	}
}

func TestGetRefusesBytesThatAreCut(t *testing.T) {
	for _, h := range rightHeads() {
		s := join(parts(h))
		for n := range len(s) {
			refuses(t, "cut behind", s[:n])
			refuses(t, "cut ahead", s[n+1:])
			wantGet(t, "a byte taken out", s[:n]+s[n+1:])
		}
	}
}

func TestGetRefusesMoreBytes(t *testing.T) {
	for _, h := range rightHeads() {
		s := join(parts(h))
		for c := range 256 {
			one := string([]byte{byte(c)})
			refuses(t, "a byte behind", s+one)
			refuses(t, "a byte ahead", one+s)
			refuses(t, "a field behind", s+field(c, ""))
			refuses(t, "a field with a byte behind", s+field(c, "\x01"))
			refuses(t, "a field ahead", field(c, "")+s)
		}
		refuses(t, "twice", s+s)
		refuses(t, "many bytes behind", s+strings.Repeat("\x00", 1000))
		refuses(t, "a whole row behind", s+field(6, "a")+field(7, strings.Repeat("b", 65536)))
	}
	s := join(parts(plain()))
	for n := range len(s) + 1 {
		for _, c := range []string{"\x00", "\x01", "\x20", "\xff"} {
			wantGet(t, "a byte put in", s[:n]+c+s[n:])
		}
	}
}

// Of what comes of a byte that is turned, some is a right head's, and is read as that one; nothing else is.
func TestGetOfEveryByteTurned(t *testing.T) {
	for _, h := range []api.Head{least(), greatest(), plain()} {
		s := join(parts(h))
		read := 0
		for at := range len(s) {
			for c := range 256 {
				b := []byte(s)
				b[at] = byte(c)
				wantGet(t, "a byte turned", string(b))
				if got, e := head.Get(b); e == api.OK {
					read++
					if back, f := head.Put(got); string(back) != string(b) || f != api.OK || (got == h) != (string(b) == s) {
						t.Errorf("P7.4: % x is read as %+v, and laid as % x, %d", b, got, back, f)
					}
				}
			}
		}
		if read < 256*32 {
			t.Errorf("P7.1: of the bytes of %+v only %d are read with one turned", h, read)
		}
	}
}

func TestGetRefusesFieldsElsewhere(t *testing.T) {
	for _, h := range rightHeads() {
		l := parts(h)
		for i := range l {
			refuses(t, "missing", with(l, i, ""))
			refuses(t, "doubled", with(l, i, l[i]+l[i]))
			refuses(t, "empty of tag 0", with(l, i, "\x00\x00\x00\x00"))
			for j := range i {
				m := parts(h)
				m[i], m[j] = m[j], m[i]
				refuses(t, "in another order", join(m))
			}
			for c := range 256 {
				if c != i+1 {
					refuses(t, "of another tag", with(l, i, string([]byte{byte(c)})+l[i][1:]))
				}
			}
		}
		for n := range l {
			refuses(t, "the first ones", join(l[:n]))
			refuses(t, "the last ones", join(l[n+1:]))
		}
	}
}

// The tags rise in these, and each field has what a head's of its place has.
func TestGetRefusesRowsOfOtherTags(t *testing.T) {
	h := plain()
	datas := []string{number(h.Region), number(h.Epoch), number(h.Size), string(h.Root[:]), number(h.Tick)}
	for _, tags := range [][]int{{2, 3, 4, 5, 6}, {1, 2, 3, 4, 6}, {1, 2, 3, 5, 6}, {1, 2, 4, 5, 6}, {1, 3, 4, 5, 6}, {1, 2, 3, 4, 255}, {11, 12, 13, 14, 15}, {0, 1, 2, 3, 4}} {
		var s string
		for i, tag := range tags {
			s += field(tag, datas[i])
		}
		refuses(t, "of other tags", s)
	}
}

func TestGetRefusesNumbersOfOtherBytes(t *testing.T) {
	for _, h := range rightHeads() {
		l := parts(h)
		for tag, n := range map[int]int{1: h.Region, 2: h.Epoch, 3: h.Size, 5: h.Tick} {
			for zeros := 1; zeros <= 9; zeros++ {
				refuses(t, "bytes 0 ahead", with(l, tag-1, field(tag, strings.Repeat("\x00", zeros)+number(n))))
			}
			refuses(t, "many bytes 0 ahead", with(l, tag-1, field(tag, strings.Repeat("\x00", 65535)+number(n))))
			refuses(t, "higher bytes", with(l, tag-1, field(tag, "\x01\x00\x00\x00\x00"+number(n))))
			refuses(t, "eight bytes 255", with(l, tag-1, field(tag, "\xff\xff\xff\xff\xff\xff\xff\xff")))
			refuses(t, "nine bytes", with(l, tag-1, field(tag, "\x01\x00\x00\x00\x00\x00\x00\x00\x01")))
			refuses(t, "2 to the 62", with(l, tag-1, field(tag, "\x40\x00\x00\x00\x00\x00\x00\x00")))
			refuses(t, "2 to the 64 and what is right", with(l, tag-1, field(tag, "\x01\x00\x00\x00\x00\x00\x00\x00\x02")))
			refuses(t, "digits", with(l, tag-1, field(tag, "123456")))
			refuses(t, "a root", with(l, tag-1, field(tag, string(h.Root[:]))))
			refuses(t, "65537 bytes", with(l, tag-1, field(tag, strings.Repeat("\x01", 65537))))
		}
	}
}

// No byte is the number 0: right for Size and Tick, wrong for Region and Epoch.
func TestGetOfNumbersOfNoByte(t *testing.T) {
	l := parts(plain())
	refuses(t, "no region", with(l, 0, field(1, "")))
	refuses(t, "no epoch", with(l, 1, field(2, "")))
	h := plain()
	h.Size = 0
	if got, e := head.Get([]byte(with(l, 2, field(3, "")))); got != h || e != api.OK {
		t.Errorf("P7.1: Get of no byte as Size is %+v, %d", got, e)
	}
	h = plain()
	h.Tick = 0
	if got, e := head.Get([]byte(with(l, 4, field(5, "")))); got != h || e != api.OK {
		t.Errorf("P7.1: Get of no byte as Tick is %+v, %d", got, e)
	}
}

func TestGetRefusesRootsOfOtherLengths(t *testing.T) {
	for _, h := range rightHeads() {
		l, root := parts(h), string(h.Root[:])
		for n := range 32 {
			refuses(t, "a root's beginning", with(l, 3, field(4, root[:n])))
			refuses(t, "a root's end", with(l, 3, field(4, root[n+1:])))
		}
		for _, more := range []string{"\x00", "\xff", root, strings.Repeat("\x00", 65536-32)} {
			refuses(t, "a root and more", with(l, 3, field(4, root+more)))
			refuses(t, "more and a root", with(l, 3, field(4, more+root)))
		}
	}
}

func FuzzGet(f *testing.F) {
	for _, h := range rightHeads() {
		f.Add([]byte(join(parts(h))))
	}
	f.Add([]byte{})
	f.Add([]byte(join(parts(api.Head{}))))
	f.Fuzz(func(t *testing.T, b []byte) {
		wantGet(t, "made up", string(b))
	})
}

func FuzzPut(f *testing.F) {
	f.Add(1, 1, 0, 0, "")
	f.Add(5, 900000000, 100000, 900000000, "root")
	f.Add(0, 900000001, 100001, -1, "")
	f.Fuzz(func(t *testing.T, region, epoch, size, tick int, root string) {
		h := api.Head{Region: region, Epoch: epoch, Size: size, Tick: tick}
		copy(h.Root[:], root)
		wantCheck(t, h)
		if isRight(h) {
			wantPut(t, h, join(parts(h)))
		} else if b, e := head.Put(h); len(b) != 0 || e != api.ErrHeadForm {
			t.Errorf("P7.1: Put(%+v) is % x, %d", h, b, e)
		}
	})
}
