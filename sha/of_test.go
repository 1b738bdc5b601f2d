package sha_test

import (
	"crypto/sha256"
	"encoding/hex"
	"fmt"
	"slices"
	"strings"
	"testing"

	"estreat/api"
	"estreat/sha"
)

// edges are lengths at which a message gets another block, and their neighbours.
var edges = []int{0, 1, 2, 3, 54, 55, 56, 57, 62, 63, 64, 65, 66, 118, 119, 120, 121, 127, 128, 129, 183, 184, 192, 247, 248, 1000}

// unlike has n bytes, no two neighbours of which are alike.
func unlike(n int) string {
	b := make([]byte, n)
	for i := range b {
		b[i] = byte(i*37 + i>>8)
	}
	return string(b)
}

func TestOfKnownTexts(t *testing.T) {
	for _, x := range []struct {
		parts []string
		want  string
	}{
		{nil, "e3b0c44298fc1c149afbf4c8996fb92427ae41e4649b934ca495991b7852b855"},
		{[]string{""}, "e3b0c44298fc1c149afbf4c8996fb92427ae41e4649b934ca495991b7852b855"},
		{[]string{"", "", ""}, "e3b0c44298fc1c149afbf4c8996fb92427ae41e4649b934ca495991b7852b855"},
		{[]string{"abc"}, "ba7816bf8f01cfea414140de5dae2223b00361a396177a9cb410ff61f20015ad"},
		{[]string{"a", "bc"}, "ba7816bf8f01cfea414140de5dae2223b00361a396177a9cb410ff61f20015ad"},
		{[]string{"", "a", "", "b", "c", ""}, "ba7816bf8f01cfea414140de5dae2223b00361a396177a9cb410ff61f20015ad"},
		{[]string{"abcdbcdecdefdefgefghfghighijhijkijkljklmklmnlmnomnopnopq"}, "248d6a61d20638b8e5c026930c3e6039a33ce45964ff2167f6ecedd419db06c1"},
		{[]string{"abcdefghbcdefghicdefghijdefghijkefghijklfghijklmghijklmn", "hijklmnoijklmnopjklmnopqklmnopqrlmnopqrsmnopqrstnopqrstu"}, "cf5b16a778af8380036ce59e7b0492370b249b11e8f07a51afac45037afee9d1"},
		{[]string{strings.Repeat("a", 1000000)}, "cdc76e5c9914fb9281a1c7e284d73e67f1809a48a497200e046d39ccc7112cd0"},
	} {
		got := sha.Of(x.parts...)
		if s := hex.EncodeToString(got[:]); s != x.want {
			t.Errorf("P2.1: Of %d parts, %.20q ..: %s; want %s", len(x.parts), strings.Join(x.parts, ""), s, x.want)
		}
	}
}

// The library's own sums are what the standard asks for, so tests may hold ours against them.
func TestOfEveryLength(t *testing.T) {
	lengths := slices.Clone(edges)
	for n := range 400 {
		lengths = append(lengths, n)
	}
	for _, n := range append(lengths, 65535, 65536, 65537) {
		for _, s := range []string{unlike(n), strings.Repeat("\x00", n), strings.Repeat("\xff", n), strings.Repeat("\x80", n)} {
			if got := sha.Of(s); got != sha256.Sum256([]byte(s)) {
				t.Errorf("P2.1: Of %d bytes, %.4q ..: %x", n, s, got)
			}
		}
	}
}

func TestOfEveryByte(t *testing.T) {
	for c := range 256 {
		s := string([]byte{byte(c)})
		if got := sha.Of(s); got != sha256.Sum256([]byte(s)) {
			t.Errorf("P2.1: Of %q: %x", s, got)
		}
	}
}

func TestOfDoesNotCareWhereParts(t *testing.T) {
	for _, n := range edges {
		s := unlike(n)
		want := sha256.Sum256([]byte(s))
		for cut := range n + 1 {
			if got := sha.Of(s[:cut], s[cut:]); got != want {
				t.Errorf("P2.3: Of %d bytes parted at %d: %x", n, cut, got)
			}
			if got := sha.Of("", s[:cut/2], s[cut/2:cut], "", s[cut:], ""); got != want {
				t.Errorf("P2.3: Of %d bytes parted at %d, %d: %x", n, cut/2, cut, got)
			}
		}
		if got := sha.Of(strings.Split(s, "")...); got != want {
			t.Errorf("P2.3: Of %d bytes, a part each: %x", n, got)
		}
	}
}

func TestOfManyParts(t *testing.T) {
	parts := slices.Repeat([]string{"ab", "", "c"}, 20000)
	if got := sha.Of(parts...); got != sha256.Sum256([]byte(strings.Repeat("abc", 20000))) {
		t.Errorf("P2.1: Of 60000 parts: %x", got)
	}
}

// So many bytes have more bits than 32 bits can tell.
func TestOfWhatHasTwoWordsOfBits(t *testing.T) {
	if testing.Short() {
		t.Skip("512 MiB")
	}
	parts := slices.Repeat([]string{unlike(1 << 20)}, 512)
	h := sha256.New()
	for _, p := range parts {
		h.Write([]byte(p))
	}
	if got := sha.Of(parts...); !slices.Equal(got[:], h.Sum(nil)) {
		t.Errorf("P2.1: Of 512 MiB: %x", got)
	}
}

func TestOfUnlikeTextsIsUnlike(t *testing.T) {
	seen := map[api.Digest]string{}
	for _, n := range edges {
		for _, s := range []string{strings.Repeat("\x00", n), strings.Repeat("\x80", n) + "!", strings.Repeat("x", n) + "\x80"} {
			d := sha.Of(s)
			if other, ok := seen[d]; ok {
				t.Errorf("P2.1: %q and %q have one sum", s, other)
			}
			seen[d] = s
		}
	}
}

func TestEmptyIsOfNoPart(t *testing.T) {
	if d := sha.Empty(); d != sha256.Sum256(nil) || d != sha.Of() {
		t.Errorf("P2.1: Empty: %x", d)
	}
}

func TestLeafHasAByteNoughtAhead(t *testing.T) {
	for _, x := range []struct{ data, want string }{
		{"", "6e340b9cffb37a989ca544e6bb780a2c78901d3fb33738768511a30617afa01d"},
		{"\x00", "96a296d224f285c67bee93c30f8a309157f0daa35dc5b87e410b78630a09cfc7"},
		{"\x10", "0298d122906dcfc10892cb53a73992fc5b9f493ea4c9badb27b791b4127a7fe7"},
	} {
		d := sha.Leaf(x.data)
		if s := hex.EncodeToString(d[:]); s != x.want {
			t.Errorf("P2.1: Leaf(%q): %s; want %s", x.data, s, x.want)
		}
	}
	for _, n := range edges {
		s := unlike(n)
		if d := sha.Leaf(s); d != sha256.Sum256([]byte("\x00"+s)) {
			t.Errorf("P2.1: Leaf of %d bytes: %x", n, d)
		}
	}
}

func TestKnotHasAByteOneAheadAndKeepsTheSides(t *testing.T) {
	var low, high api.Digest
	for i := range low {
		low[i], high[i] = byte(i), byte(255-i)
	}
	digests := []api.Digest{{}, low, high, sha256.Sum256([]byte("a")), sha256.Sum256([]byte("b"))}
	for _, l := range digests {
		for _, r := range digests {
			want := sha256.Sum256([]byte("\x01" + string(l[:]) + string(r[:])))
			if d := sha.Knot(l, r); d != want {
				t.Errorf("P2.1: Knot(%x, %x): %x", l, r, d)
			}
		}
	}
	// RFC 6962: the root of the leaves "" and a byte 0.
	if s := fmt.Sprintf("%x", sha.Knot(sha.Leaf(""), sha.Leaf("\x00"))); s != "fac54203e7cc696cf0dfcb42c92a1d9dbaf70ad9e621f4bd8d98662f00e3c125" {
		t.Errorf("P2.1: Knot of two leaves: %s", s)
	}
}

func TestOfLeavesWhatIsHandedIn(t *testing.T) {
	whole := []string{"a", "bc", "", unlike(100), "behind"}
	before := slices.Clone(whole)
	one := sha.Of(whole[:4]...)
	two := sha.Of(whole[:4]...)
	if !slices.Equal(whole, before) {
		t.Errorf("R2: Of changed what it was handed: %q", whole)
	}
	if want := sha256.Sum256([]byte("abc" + unlike(100))); one != want || two != want {
		t.Errorf("R2: Of the same parts: %x, %x", one, two)
	}
}

func TestOneSumLeavesTheNext(t *testing.T) {
	want := sha256.Sum256([]byte("abc"))
	for _, n := range edges {
		sha.Of(unlike(n))
		sha.Leaf(unlike(n))
		sha.Knot(want, want)
		if d := sha.Of("abc"); d != want {
			t.Errorf("R2: Of abc behind a sum of %d bytes: %x", n, d)
		}
		if d := sha.Empty(); d != sha256.Sum256(nil) {
			t.Errorf("R2: Empty behind a sum of %d bytes: %x", n, d)
		}
	}
}

func FuzzOf(f *testing.F) {
	for _, n := range edges {
		f.Add(unlike(n), "")
		f.Add(unlike(n/2), unlike(n-n/2))
	}
	f.Fuzz(func(t *testing.T, a, b string) {
		if d := sha.Of(a, b); d != sha256.Sum256([]byte(a+b)) {
			t.Errorf("P2.1: Of(%q, %q): %x", a, b, d)
		}
	})
}
