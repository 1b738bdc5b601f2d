package pack_test

import (
	"math"
	"slices"
	"strings"
	"testing"

	"estreat/api"
	"estreat/pack"
)

// edges are numbers at which the count of bytes changes, and their neighbours, rising.
func edges() []int {
	l := []int{0, 1, 2, 127, 128, 254, 258, 513}
	for shift := 8; shift <= 56; shift += 8 {
		l = append(l, 1<<shift-1, 1<<shift, 1<<shift+1)
	}
	l = append(l, 1<<61, 1<<62-2, 1<<62-1)
	slices.Sort(l)
	return slices.Compact(l)
}

func TestNumberIsTheFewestBytesHighestFirst(t *testing.T) {
	for _, x := range []struct {
		n    int
		want string
	}{
		{0, ""},
		{1, "\x01"},
		{127, "\x7f"},
		{128, "\x80"},
		{255, "\xff"},
		{256, "\x01\x00"},
		{258, "\x01\x02"},
		{65535, "\xff\xff"},
		{65536, "\x01\x00\x00"},
		{0x010203, "\x01\x02\x03"},
		{1<<32 - 1, "\xff\xff\xff\xff"},
		{1 << 32, "\x01\x00\x00\x00\x00"},
		{1<<56 - 1, "\xff\xff\xff\xff\xff\xff\xff"},
		{1 << 56, "\x01\x00\x00\x00\x00\x00\x00\x00"},
		{0x0102030405060708, "\x01\x02\x03\x04\x05\x06\x07\x08"},
		{1<<62 - 1, "\x3f\xff\xff\xff\xff\xff\xff\xff"},
	} {
		if s, e := pack.Number(x.n); s != x.want || e != api.OK {
			t.Errorf("P1.1: Number(%d) is % x, %d; want % x", x.n, s, e, x.want)
		}
		if n, e := pack.Value(x.want); n != x.n || e != api.OK {
			t.Errorf("P1.1: Value(% x) is %d, %d; want %d", x.want, n, e, x.n)
		}
	}
}

func TestNumberRefusesWhatIsNone(t *testing.T) {
	for _, n := range []int{-1, -2, -256, -1 << 62, math.MinInt, 1 << 62, 1<<62 + 1, math.MaxInt} {
		if s, e := pack.Number(n); s != "" || e != api.ErrArg {
			t.Errorf("P1.1: Number(%d) is % x, %d; want ErrArg", n, s, e)
		}
	}
}

func TestValueRefusesWhatIsNoNumbersBytes(t *testing.T) {
	for _, s := range []string{
		"\x00",
		"\x00\x00",
		"\x00\x01",
		"\x00\xff",
		"\x00\x01\x02\x03\x04\x05\x06\x07",
		"\x40\x00\x00\x00\x00\x00\x00\x00",
		"\x7f\xff\xff\xff\xff\xff\xff\xff",
		"\x80\x00\x00\x00\x00\x00\x00\x00",
		"\xff\xff\xff\xff\xff\xff\xff\xff",
		"\x01\x00\x00\x00\x00\x00\x00\x00\x00",
		"\x00\x00\x00\x00\x00\x00\x00\x00\x01",
		"\x00\x01\x00\x00\x00\x00\x00\x00\x00",
		strings.Repeat("\x01", 16),
		strings.Repeat("\x00", 70000),
		strings.Repeat("\xff", 70000),
	} {
		if n, e := pack.Value(s); n != 0 || e != api.ErrPackForm {
			t.Errorf("P1.1: Value(% .20x ..), %d bytes, is %d, %d; want ErrPackForm", s, len(s), n, e)
		}
	}
}

func TestValueOfAllShortTexts(t *testing.T) {
	for a := range 256 {
		one := string([]byte{byte(a)})
		wantShort(t, one, a, a != 0)
		for b := range 256 {
			wantShort(t, one+string([]byte{byte(b)}), a*256+b, a != 0)
		}
	}
}

func wantShort(t *testing.T, s string, want int, good bool) {
	t.Helper()
	n, e := pack.Value(s)
	switch {
	case good && (n != want || e != api.OK):
		t.Errorf("P1.1: Value(% x) is %d, %d; want %d", s, n, e, want)
	case !good && (n != 0 || e != api.ErrPackForm):
		t.Errorf("P1.1: Value(% x) is %d, %d; want ErrPackForm", s, n, e)
	}
}

func TestNumbersComeBackAndKeepTheirOrder(t *testing.T) {
	l := edges()
	texts := make([]string, len(l))
	for i, n := range l {
		s, e := pack.Number(n)
		if e != api.OK {
			t.Fatalf("P1.1: Number(%d): %d", n, e)
		}
		if v, e := pack.Value(s); v != n || e != api.OK {
			t.Errorf("P1.4: %d comes back as %d, %d", n, v, e)
		}
		texts[i] = s
	}
	for i, a := range texts {
		for j, b := range texts[i+1:] {
			if len(a) > len(b) || len(a) == len(b) && a >= b {
				t.Errorf("P1.4: %d has % x, not ahead of % x of %d", l[i], a, b, l[i+1+j])
			}
		}
	}
}

func FuzzValue(f *testing.F) {
	for _, s := range []string{"", "\x00", "\x01", "\x3f\xff\xff\xff\xff\xff\xff\xff", "\x40\x00\x00\x00\x00\x00\x00\x00"} {
		f.Add(s)
	}
	f.Fuzz(func(t *testing.T, s string) {
		n, e := pack.Value(s)
		if e != api.OK {
			if n != 0 || e != api.ErrPackForm {
				t.Errorf("R1: Value(% x) is %d, %d", s, n, e)
			}
			return
		}
		if back, e := pack.Number(n); back != s || e != api.OK {
			t.Errorf("P1.4: % x is %d, and that % x, %d", s, n, back, e)
		}
	})
}
