package tag_test

import (
	"crypto/hmac"
	"crypto/sha256"
	"encoding/hex"
	"slices"
	"strings"
	"testing"

	"estreat/api"
	"estreat/sha"
	"estreat/tag"
)

// lengths are the named ones, those at which the inner or the outer sum gets another block, and their neighbours.
var lengths = []int{0, 1, 2, 3, 31, 32, 33, 54, 55, 56, 57, 62, 63, 64, 65, 66, 118, 119, 120, 121, 127, 128, 129, 183, 184, 1000, 65536, 100003}

// filled has c in every byte.
func filled(c byte) api.Key {
	var k api.Key
	for i := range k {
		k[i] = c
	}
	return k
}

// rising has the bytes from c on, so that no two places are alike.
func rising(c int) api.Key {
	var k api.Key
	for i := range k {
		k[i] = byte(c + i)
	}
	return k
}

// keys are of all kinds: those of the pads make blocks that begin with bytes 0.
func keys() []api.Key {
	return []api.Key{
		{}, filled(255), rising(0), rising(1), rising(224), filled(1), filled(128), filled(54), filled(92),
		{0: 1}, {31: 1}, {0: 255}, {31: 255}, {16: 128}, sha256.Sum256([]byte("a key")),
	}
}

// unlike has n bytes, no two neighbours of which are alike.
func unlike(n int) string {
	b := make([]byte, n)
	for i := range b {
		b[i] = byte(i*37 + i>>8)
	}
	return string(b)
}

// macOf is worked out by the library's HMAC.
func macOf(key api.Key, data string) api.Digest {
	h := hmac.New(sha256.New, key[:])
	h.Write([]byte(data))
	return api.Digest(h.Sum(nil))
}

// blocksOf is worked out as the chapter says it, with the library's sums.
func blocksOf(key api.Key, data string) api.Digest {
	outer := slices.Repeat([]byte{92}, 64)
	inner := slices.Repeat([]byte{54}, 64)
	for i, c := range key {
		outer[i], inner[i] = c^92, c^54
	}
	low := sha256.Sum256(append(inner, data...))
	return sha256.Sum256(append(outer, low[:]...))
}

func wantMac(t *testing.T, key api.Key, data string) {
	t.Helper()
	got := tag.Mac(key, data)
	if want := macOf(key, data); got != want {
		t.Errorf("P6.1: Mac(%x, %d bytes %.40q) is %x; want %x", key, len(data), data, got, want)
	}
	if want := blocksOf(key, data); got != want {
		t.Errorf("P6.1: Mac(%x, %d bytes %.40q) is %x; by its blocks %x", key, len(data), data, got, want)
	}
}

func TestMacOfKnownTexts(t *testing.T) {
	for _, x := range []struct {
		key  api.Key
		data string
		want string
	}{
		{api.Key{}, "", "b613679a0814d9ec772f95d778c35fc5ff1697c493715653c6c712144292c5ad"},
		// The cases 1 to 4 of RFC 4231, whose keys are not longer than these.
		{api.Key([]byte(strings.Repeat("\x0b", 20) + strings.Repeat("\x00", 12))), "Hi There", "b0344c61d8db38535ca8afceaf0bf12b881dc200c9833da726e9376c2e32cff7"},
		{api.Key{'J', 'e', 'f', 'e'}, "what do ya want for nothing?", "5bdcc146bf60754e6a042426089575c75a003f089d2739839dec58b964ec3843"},
		{api.Key([]byte(strings.Repeat("\xaa", 20) + strings.Repeat("\x00", 12))), strings.Repeat("\xdd", 50), "773ea91e36800e46854db8ebd09181a72959098b3ef8c122d9635514ced565fe"},
		{api.Key([]byte("\x01\x02\x03\x04\x05\x06\x07\x08\x09\x0a\x0b\x0c\x0d\x0e\x0f\x10\x11\x12\x13\x14\x15\x16\x17\x18\x19" + strings.Repeat("\x00", 7))), strings.Repeat("\xcd", 50), "82558a389a443c0ea4cc819899f2083a85f0faa3e578f8077a2e3ff46729665b"},
	} {
		got := tag.Mac(x.key, x.data)
		if s := hex.EncodeToString(got[:]); s != x.want {
			t.Errorf("P6.1: Mac(%x, %q) is %s; want %s", x.key, x.data, s, x.want)
		}
	}
}

func TestMacOfTheChapter(t *testing.T) {
	s := sha.Hex(tag.Mac(api.Key{}, ""))
	if s[:8] != "b613679a" || s[56:] != "4292c5ad" {
		t.Errorf("P6.1: Mac of 32 bytes 0 and none is %s", s)
	}
}

func TestMacOfKeysAndLengths(t *testing.T) {
	for _, key := range keys() {
		for _, n := range lengths {
			wantMac(t, key, unlike(n))
			wantMac(t, key, strings.Repeat("\x00", n))
			wantMac(t, key, strings.Repeat("\xff", n))
		}
	}
}

func TestMacOfEveryShortLength(t *testing.T) {
	for n := range 300 {
		wantMac(t, rising(7), unlike(n))
	}
}

func TestMacOfEveryByteOfAKey(t *testing.T) {
	for c := range 256 {
		wantMac(t, filled(byte(c)), "data")
		wantMac(t, rising(c), "data")
		for _, at := range []int{0, 1, 15, 16, 30, 31} {
			key := rising(3)
			key[at] = byte(c)
			wantMac(t, key, "data")
		}
	}
}

func TestMacOfAnyBytes(t *testing.T) {
	for c := range 256 {
		wantMac(t, rising(0), string([]byte{byte(c)}))
	}
	for _, data := range []string{"\x00", "é", "\xff\xfe", "a\x00b", "\xed\xa0\x80", "日本", "\n", "%s", strings.Repeat("é", 32)} {
		wantMac(t, rising(0), data)
	}
}

// What a block is made of may not be taken for data, nor data for a key.
func TestMacKeepsKeyAndDataApart(t *testing.T) {
	key := rising(1)
	text := string(key[:])
	seen := map[api.Digest]string{}
	for name, d := range map[string]api.Digest{
		"the key alone":         tag.Mac(key, ""),
		"the key as data":       tag.Mac(api.Key{}, text),
		"the key as both":       tag.Mac(key, text),
		"a byte 0 more":         tag.Mac(key, "\x00"),
		"32 bytes 0 more":       tag.Mac(key, strings.Repeat("\x00", 32)),
		"64 bytes 54":           tag.Mac(api.Key{}, strings.Repeat("\x36", 64)),
		"64 bytes 92":           tag.Mac(api.Key{}, strings.Repeat("\x5c", 64)),
		"a key of 54":           tag.Mac(filled(54), ""),
		"a key of 92":           tag.Mac(filled(92), ""),
		"a key of both pads":    tag.Mac(filled(54^92), ""),
		"only the inner sum":    sha256.Sum256([]byte(text)),
		"no bytes, no key":      tag.Mac(api.Key{}, ""),
		"no bytes, not any key": sha256.Sum256(nil),
	} {
		if seen[d] != "" {
			t.Errorf("P6.1: %s and %s have one tag", name, seen[d])
		}
		seen[d] = name
	}
}

// A tag hangs on every bit of its key and of its data.
func TestMacHangsOnEveryBit(t *testing.T) {
	seen := map[api.Digest]int{}
	add := func(d api.Digest) {
		if seen[d]++; seen[d] > 1 {
			t.Errorf("P6.1: two keys or two data have one tag, %x", d)
		}
	}
	key, data := rising(9), unlike(70)
	add(tag.Mac(key, data))
	for i := range 32 * 8 {
		turned := key
		turned[i/8] ^= 1 << (i % 8)
		wantMac(t, turned, data)
		add(tag.Mac(turned, data))
	}
	for i := range len(data) * 8 {
		turned := []byte(data)
		turned[i/8] ^= 1 << (i % 8)
		wantMac(t, key, string(turned))
		add(tag.Mac(key, string(turned)))
	}
	for n := range len(data) {
		add(tag.Mac(key, data[:n]))
	}
}

func FuzzMac(f *testing.F) {
	for _, n := range lengths {
		f.Add("a key", unlike(n))
	}
	f.Fuzz(func(t *testing.T, name, data string) {
		key := api.Key(sha256.Sum256([]byte(name)))
		copy(key[:], name)
		wantMac(t, key, data)
	})
}
