package sha_test

import (
	"encoding/hex"
	"strings"
	"testing"

	"estreat/api"
	"estreat/sha"
)

// filled has c in every byte.
func filled(c byte) api.Digest {
	var d api.Digest
	for i := range d {
		d[i] = c
	}
	return d
}

// rising has the bytes from c on, so that no two places are alike.
func rising(c int) api.Digest {
	var d api.Digest
	for i := range d {
		d[i] = byte(c + i)
	}
	return d
}

func TestHexIsTwoDigitsAByteTheHigherFirst(t *testing.T) {
	for _, x := range []struct {
		d    api.Digest
		want string
	}{
		{api.Digest{}, strings.Repeat("0", 64)},
		{filled(0xff), strings.Repeat("f", 64)},
		{filled(0xa0), strings.Repeat("a0", 32)},
		{filled(0x09), strings.Repeat("09", 32)},
		{rising(0), "000102030405060708090a0b0c0d0e0f101112131415161718191a1b1c1d1e1f"},
		{rising(0xe0), "e0e1e2e3e4e5e6e7e8e9eaebecedeeeff0f1f2f3f4f5f6f7f8f9fafbfcfdfeff"},
	} {
		if s := sha.Hex(x.d); s != x.want {
			t.Errorf("P2.2: Hex(%v) is %q; want %q", x.d, s, x.want)
		}
		if d, e := sha.Parse(x.want); d != x.d || e != api.OK {
			t.Errorf("P2.2: Parse(%q) is %v, %d", x.want, d, e)
		}
	}
}

func TestHexAndParseOfEveryByte(t *testing.T) {
	for c := range 256 {
		for _, d := range []api.Digest{filled(byte(c)), rising(c)} {
			want := hex.EncodeToString(d[:])
			if s := sha.Hex(d); s != want {
				t.Errorf("P2.2: Hex(%v) is %q; want %q", d, s, want)
			}
			if back, e := sha.Parse(want); back != d || e != api.OK {
				t.Errorf("P2.3: Parse(%q) is %v, %d; want %v", want, back, e, d)
			}
			if s := sha.Hex(must(t, want)); s != want {
				t.Errorf("P2.3: %q comes back as %q", want, s)
			}
		}
	}
}

func must(t *testing.T, s string) api.Digest {
	t.Helper()
	d, e := sha.Parse(s)
	if e != api.OK {
		t.Fatalf("P2.2: Parse(%q): %d", s, e)
	}
	return d
}

func TestParseRefusesWhatHasNot64Digits(t *testing.T) {
	for n := range 200 {
		if n == 64 {
			continue
		}
		wantRefused(t, strings.Repeat("a", n))
		wantRefused(t, strings.Repeat("0", n))
	}
	good := sha.Hex(rising(7))
	wantRefused(t, good+good)
	wantRefused(t, good+"\n")
	wantRefused(t, " "+good)
	wantRefused(t, "0x"+good)
	wantRefused(t, strings.Repeat("0", 100000))
}

func TestParseRefusesEveryOtherByteAtEveryPlace(t *testing.T) {
	good := sha.Hex(rising(0x5a))
	for at := range len(good) {
		for c := range 256 {
			b := []byte(good)
			b[at] = byte(c)
			s := string(b)
			if strings.IndexByte("0123456789abcdef", byte(c)) < 0 {
				wantRefused(t, s)
			} else if got := sha.Hex(must(t, s)); got != s {
				t.Errorf("P2.3: %q comes back as %q", s, got)
			}
		}
	}
}

func TestParseRefusesWhatOnlyLooksLikeDigits(t *testing.T) {
	good := sha.Hex(rising(0))
	for _, two := range []string{"A0", "0A", "aF", "Fa", "+1", "-1", "1+", "1-", "_1", "1_", " 1", "1 ", "0x", "0X", "g0", "0g", "\x001", "1\x00", "1\n", "\xff0", "é"} {
		for _, at := range []int{0, 2, 30, 62} {
			wantRefused(t, good[:at]+two+good[at+2:])
		}
	}
	wantRefused(t, strings.Repeat("A", 64))
	wantRefused(t, strings.Repeat("F", 64))
	wantRefused(t, strings.Repeat("g", 64))
	wantRefused(t, strings.Repeat("+1", 32))
	wantRefused(t, strings.Repeat("\x00", 64))
	wantRefused(t, strings.Repeat("é", 32))
	wantRefused(t, "e"+strings.Repeat("é", 32)[:63])
	// 64 runes, of more bytes.
	wantRefused(t, strings.Repeat("é", 64))
	wantRefused(t, strings.Repeat("0", 63)+"é")
}

func wantRefused(t *testing.T, s string) {
	t.Helper()
	if d, e := sha.Parse(s); d != (api.Digest{}) || e != api.ErrArg {
		t.Errorf("P2.2: Parse(%.80q), %d bytes, is %v, %d; want zero, ErrArg", s, len(s), d, e)
	}
}

func FuzzParse(f *testing.F) {
	for _, s := range []string{"", sha.Hex(rising(0)), strings.Repeat("A", 64), strings.Repeat("f", 63), strings.Repeat("+1", 32)} {
		f.Add(s)
	}
	f.Fuzz(func(t *testing.T, s string) {
		d, e := sha.Parse(s)
		if e != api.OK {
			if d != (api.Digest{}) || e != api.ErrArg {
				t.Errorf("R1: Parse(%q) is %v, %d", s, d, e)
			}
			return
		}
		if back := sha.Hex(d); back != s {
			t.Errorf("P2.3: %q comes back as %q", s, back)
		}
	})
}
