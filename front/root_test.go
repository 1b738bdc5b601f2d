package front_test

import (
	"crypto/sha256"
	"encoding/hex"
	"slices"
	"testing"

	"estreat/api"
	"estreat/front"
	"estreat/sha"
	"estreat/tree"
)

func wantRoot(t *testing.T, promise string, f front.Front, want api.Digest) {
	t.Helper()
	if got, e := front.Root(f); e != api.OK || got != want {
		t.Errorf("%s: Root at size %d: %x, error %d; want %x", promise, f.Size, got, e, want)
	}
}

func TestRootOfNoPeak(t *testing.T) {
	wantRoot(t, "P4.2", front.Front{}, sha256.Sum256(nil))
	wantRoot(t, "P4.2", front.Front{Peaks: []api.Digest{}}, sha256.Sum256(nil))
}

// The peaks are made up here, of no list: the root is theirs alone.
func TestRootOfPeaks(t *testing.T) {
	p := leaves(4)
	wantRoot(t, "P4.2", front.Front{Size: 1, Peaks: p[:1]}, p[0])
	wantRoot(t, "P4.2", front.Front{Size: 65536, Peaks: p[:1]}, p[0])
	wantRoot(t, "P4.2", front.Front{Size: 3, Peaks: p[:2]}, knot(p[0], p[1]))
	wantRoot(t, "P4.2", front.Front{Size: 96, Peaks: p[:2]}, knot(p[0], p[1]))
	wantRoot(t, "P4.2", front.Front{Size: 7, Peaks: p[:3]}, knot(p[0], knot(p[1], p[2])))
	wantRoot(t, "P4.2", front.Front{Size: 85, Peaks: p}, knot(p[0], knot(p[1], knot(p[2], p[3]))))
	wantRoot(t, "P4.2", front.Front{Size: 7, Peaks: make([]api.Digest, 3)}, knot(api.Digest{}, knot(api.Digest{}, api.Digest{})))
}

func TestRootHangsOnEachPeakAndItsPlace(t *testing.T) {
	for _, size := range append(slices.Clone(longLengths), lengths...) {
		p := leaves(ones(size))
		was, _ := front.Root(front.Front{Size: size, Peaks: p})
		for i := range p {
			other := slices.Clone(p)
			other[i][31] ^= 1
			if got, _ := front.Root(front.Front{Size: size, Peaks: other}); got == was {
				t.Errorf("P4.2: Root at size %d is the same with another peak at %d", size, i)
			}
			turned := slices.Clone(p)
			turned[0], turned[i] = turned[i], turned[0]
			if got, _ := front.Root(front.Front{Size: size, Peaks: turned}); i > 0 && got == was {
				t.Errorf("P4.2: Root at size %d is the same with the first peak and that at %d changed over", size, i)
			}
		}
	}
}

func TestRootRefusesPeaksTooFewAndTooMany(t *testing.T) {
	for _, size := range append(slices.Clone(longLengths), lengths...) {
		for _, n := range []int{ones(size) - 1, ones(size) + 1} {
			if n < 0 {
				continue
			}
			if d, e := front.Root(front.Front{Size: size, Peaks: leaves(n)}); e != api.ErrFrontForm || d != (api.Digest{}) {
				t.Errorf("P4.2: Root(size %d, %d peaks): %x, error %d; want ErrFrontForm", size, n, d, e)
			}
		}
	}
}

func TestRootIsTheLists(t *testing.T) {
	all := leaves(300)
	var f front.Front
	for n := range len(all) + 1 {
		of, e := front.Of(all[:n])
		if e != api.OK {
			t.Fatalf("P4.1: Of(%d leaves): error %d", n, e)
		}
		wantRoot(t, "P4.3", of, tree.Root(all[:n]))
		wantRoot(t, "P4.3", of, top(all[:n]))
		wantRoot(t, "P4.3", f, tree.Root(all[:n]))
		if n < len(all) {
			f, _ = front.Add(f, all[n])
		}
	}
}

func TestRootOfLongLists(t *testing.T) {
	all := leaves(api.MaxSize)
	for _, n := range longLengths {
		f, e := front.Of(all[:n])
		if e != api.OK {
			t.Fatalf("P4.1: Of(%d leaves): error %d", n, e)
		}
		wantRoot(t, "P4.3", f, tree.Root(all[:n]))
	}
}

// These are the roots that certificate logs (RFC 6962) have of these entries.
func TestRootKnown(t *testing.T) {
	var f front.Front
	for i, x := range []struct{ data, root string }{
		{"", "6e340b9cffb37a989ca544e6bb780a2c78901d3fb33738768511a30617afa01d"},
		{"\x00", "fac54203e7cc696cf0dfcb42c92a1d9dbaf70ad9e621f4bd8d98662f00e3c125"},
		{"\x10", "aeb6bcfe274b70a14fb067a5e5578264db0fa9b51af5e0ba159158f329e06e77"},
		{"\x20\x21", "d37ee418976dd95753c1c73862b9398fa2a2cf9b4ff0fdfe8b30cd95209614b7"},
		{"\x30\x31", "4e3bbb1f7b478dcfe71fb631631519a3bca12c9aefca1612bfce4c13a86264d4"},
		{"\x40\x41\x42\x43", "76e67dadbcdf1e10e1b74ddc608abd2f98dfb16fbce75277b5232a127f2087ef"},
		{"\x50\x51\x52\x53\x54\x55\x56\x57", "ddb89be403809e325750d3d263cd78929c2942b7942a34b77e122c9594a74c8c"},
		{"\x60\x61\x62\x63\x64\x65\x66\x67\x68\x69\x6a\x6b\x6c\x6d\x6e\x6f", "5dc9da79a70659a9ad559cb701ded9a2ab9d823aad2f4960cfe370eff4604328"},
	} {
		f, _ = front.Add(f, sha.Leaf(x.data))
		got, e := front.Root(f)
		if s := hex.EncodeToString(got[:]); e != api.OK || s != x.root {
			t.Errorf("P4.3: Root of the first %d entries: %s, error %d; want %s", i+1, s, e, x.root)
		}
	}
}
