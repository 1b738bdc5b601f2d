package tag_test

import (
	"crypto/sha256"
	"testing"

	"estreat/api"
	"estreat/tag"
)

// some are digests of all kinds.
func some() []api.Digest {
	return []api.Digest{
		{}, api.Digest(filled(255)), api.Digest(rising(0)), api.Digest(filled(128)), api.Digest(filled(1)), sha256.Sum256([]byte("a digest")),
	}
}

func wantSame(t *testing.T, a, b api.Digest) {
	t.Helper()
	if !tag.Same(a, b) || !tag.Same(b, a) {
		t.Errorf("P6.1: Same(%x, %x) is false, or the other way round", a, b)
	}
}

func wantApart(t *testing.T, a, b api.Digest) {
	t.Helper()
	if tag.Same(a, b) || tag.Same(b, a) {
		t.Errorf("P6.3: Same(%x, %x) is true, or the other way round", a, b)
	}
}

func TestSameOfTheSame(t *testing.T) {
	for _, d := range some() {
		same := d
		wantSame(t, d, same)
	}
	for c := range 256 {
		wantSame(t, api.Digest(filled(byte(c))), api.Digest(filled(byte(c))))
		wantSame(t, api.Digest(rising(c)), api.Digest(rising(c)))
	}
}

func TestSameOfOneByteApart(t *testing.T) {
	for _, d := range some() {
		for at := range d {
			for x := 1; x < 256; x++ {
				other := d
				other[at] ^= byte(x)
				wantApart(t, d, other)
			}
		}
	}
}

// The first byte alone, and the last one alone.
func TestSameOfAnEndApart(t *testing.T) {
	for _, d := range some() {
		first, last := d, d
		first[0]++
		last[31]++
		wantApart(t, d, first)
		wantApart(t, d, last)
		wantApart(t, first, last)
		last[0]++
		wantApart(t, d, last)
		wantApart(t, first, last)
	}
}

// Differences that cancel out by xor, by a sum, or in a sum of one byte.
func TestSameOfDifferencesThatCancelOut(t *testing.T) {
	for _, d := range some() {
		for i := range d {
			for j := range i {
				for _, x := range []byte{1, 2, 127, 128, 255} {
					turned := d
					turned[i] ^= x
					turned[j] ^= x
					wantApart(t, d, turned)
					moved := d
					moved[i] += x
					moved[j] -= x
					wantApart(t, d, moved)
				}
			}
		}
	}
	wantApart(t, api.Digest{}, api.Digest(filled(8)))
	wantApart(t, api.Digest{}, api.Digest(filled(128)))
	wantApart(t, api.Digest{}, api.Digest{0: 128, 1: 128})
	wantApart(t, api.Digest{}, api.Digest{0: 1, 1: 2, 2: 3})
	wantApart(t, api.Digest{}, api.Digest{0: 100, 1: 100, 31: 56})
	wantApart(t, api.Digest{}, api.Digest(filled(255)))
}

func TestSameOfBytesInAnotherOrder(t *testing.T) {
	d := api.Digest(rising(40))
	for i := range d {
		for j := range i {
			other := d
			other[i], other[j] = other[j], other[i]
			wantApart(t, d, other)
		}
	}
	var back, turned api.Digest
	for i := range d {
		back[i] = d[31-i]
		turned[i] = d[(i+1)%32]
	}
	wantApart(t, d, back)
	wantApart(t, d, turned)
}

func FuzzSame(f *testing.F) {
	f.Add("", "")
	f.Add("a", "b")
	f.Add("\x01\x01", "")
	f.Fuzz(func(t *testing.T, x, y string) {
		var a, b api.Digest
		copy(a[:], x)
		copy(b[:], y)
		if a == b {
			wantSame(t, a, b)
		} else {
			wantApart(t, a, b)
		}
	})
}
