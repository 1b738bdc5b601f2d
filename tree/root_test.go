package tree_test

import (
	"crypto/sha256"
	"encoding/binary"
	"encoding/hex"
	"math"
	"slices"
	"testing"

	"estreat/api"
	"estreat/sha"
	"estreat/tree"
)

// lengths are the named edges, and powers of 2 with their neighbours.
var lengths = []int{0, 1, 2, 3, 4, 5, 6, 7, 8, 9, 12, 15, 16, 17, 31, 32, 33, 63, 64, 65, 100}

// leaves are n digests, no two alike.
func leaves(n int) []api.Digest {
	l := make([]api.Digest, n)
	for i := range l {
		l[i] = sha256.Sum256(binary.BigEndian.AppendUint64([]byte("leaf"), uint64(i)))
	}
	return l
}

// knot is worked out by the library, so that the tests do not lean on the program's own sums.
func knot(left, right api.Digest) api.Digest {
	return sha256.Sum256(slices.Concat([]byte{1}, left[:], right[:]))
}

// levels are the knots of a tree from the leaves up, made in pairs; one that has no other goes up as it is. The program goes from the top down.
func levels(l []api.Digest) [][]api.Digest {
	all := [][]api.Digest{l}
	for len(l) > 1 {
		var up []api.Digest
		for i := 0; i < len(l); i += 2 {
			if i+1 < len(l) {
				up = append(up, knot(l[i], l[i+1]))
			} else {
				up = append(up, l[i])
			}
		}
		all = append(all, up)
		l = up
	}
	return all
}

// top is the root, by levels.
func top(l []api.Digest) api.Digest {
	if len(l) == 0 {
		return sha256.Sum256(nil)
	}
	all := levels(l)
	return all[len(all)-1][0]
}

func TestSplitSmall(t *testing.T) {
	for n, want := range []int{0, 0, 1, 2, 2, 4, 4, 4, 4, 8, 8, 8, 8, 8, 8, 8, 8, 16} {
		if got := tree.Split(n); got != want {
			t.Errorf("P3.1: Split(%d): %d; want %d", n, got, want)
		}
	}
}

func TestSplitIsTheGreatestPowerBelow(t *testing.T) {
	for n := 2; n < 5000; n++ {
		k := tree.Split(n)
		if k < 1 || k&(k-1) != 0 || k >= n || 2*k < n {
			t.Errorf("P3.1: Split(%d): %d", n, k)
		}
	}
}

func TestSplitBesideEachPower(t *testing.T) {
	for b := 2; b < 63; b++ {
		p := 1 << b
		for _, x := range []struct{ n, want int }{{p - 1, p / 2}, {p, p / 2}, {p + 1, p}} {
			if got := tree.Split(x.n); got != x.want {
				t.Errorf("P3.1: Split(%d): %d; want %d", x.n, got, x.want)
			}
		}
	}
	if got := tree.Split(math.MaxInt); got != 1<<62 {
		t.Errorf("P3.1: Split of the greatest int: %d", got)
	}
}

func TestSplitOfLessThanTwo(t *testing.T) {
	for _, n := range []int{1, 0, -1, -2, -3, -4, -8, math.MinInt + 1, math.MinInt} {
		if got := tree.Split(n); got != 0 {
			t.Errorf("P3.1: Split(%d): %d; want 0", n, got)
		}
	}
}

func TestRootOfFew(t *testing.T) {
	l := leaves(5)
	ab, cd := knot(l[0], l[1]), knot(l[2], l[3])
	for n, want := range []api.Digest{
		sha.Empty(),
		l[0],
		ab,
		knot(ab, l[2]),
		knot(ab, cd),
		knot(knot(ab, cd), l[4]),
	} {
		if got := tree.Root(l[:n]); got != want {
			t.Errorf("P3.1: Root of %d: %x; want %x", n, got, want)
		}
	}
	if tree.Root(nil) != sha256.Sum256(nil) || tree.Root([]api.Digest{}) != sha256.Sum256(nil) {
		t.Error("P3.1: Root of none is not the sum of no bytes")
	}
}

// These are the roots that certificate logs (RFC 6962) have of these entries.
func TestRootKnown(t *testing.T) {
	var l []api.Digest
	for i, x := range []struct{ data, root string }{
		{"", "6e340b9cffb37a989ca544e6bb780a2c78901d3fb33738768511a30617afa01d"},
		{"\x00", "fac54203e7cc696cf0dfcb42c92a1d9dbaf70ad9e621f4bd8d98662f00e3c125"},
		{"\x10", "aeb6bcfe274b70a14fb067a5e5578264db0fa9b51af5e0ba159158f329e06e77"},
		{"\x20\x21", "d37ee418976dd95753c1c73862b9398fa2a2cf9b4ff0fdfe8b30cd95209614b7"},
		{"\x30\x31", "4e3bbb1f7b478dcfe71fb631631519a3bca12c9aefca1612bfce4c13a86264d4"},
		{"\x40\x41\x42\x43", "76e67dadbcdf1e10e1b74ddc608abd2f98dfb16fbce75277b5232a127f2087ef"},
		{"\x50\x51\x52\x53\x54\x55\x56\x57", "ddb89be403809e325750d3d263cd78929c2942b7942a34b77e122c9594a74c8c"},
		{"\x60\x61\x62\x63\x64\x65\x66\x67\x68\x69\x6a\x6b\x6c\x6d\x6e\x6f", "5dc9da79a70659a9ad559cb701ded9a2ab9d823aad2f4960cfe370eff4604328"},
	} {
		l = append(l, sha.Leaf(x.data))
		got := tree.Root(l)
		if s := hex.EncodeToString(got[:]); s != x.root {
			t.Errorf("P3.1: Root of the first %d entries: %s; want %s", i+1, s, x.root)
		}
	}
}

func TestRootOfEveryLength(t *testing.T) {
	all := leaves(300)
	for n := range len(all) + 1 {
		if got, want := tree.Root(all[:n]), top(all[:n]); got != want {
			t.Errorf("P3.1: Root of %d: %x; want %x", n, got, want)
		}
	}
}

func TestRootIsTheKnotOfItsParts(t *testing.T) {
	all := leaves(300)
	for n := 2; n <= len(all); n++ {
		l, k := all[:n], tree.Split(n)
		if got, want := tree.Root(l), sha.Knot(tree.Root(l[:k]), tree.Root(l[k:])); got != want {
			t.Errorf("P3.1: Root of %d: %x; want the knot of its parts, %x", n, got, want)
		}
	}
}

func TestRootOfAFullLog(t *testing.T) {
	l := leaves(api.MaxSize)
	if got, want := tree.Root(l), top(l); got != want {
		t.Errorf("P3.1: Root of %d: %x; want %x", len(l), got, want)
	}
}

func TestRootHangsOnEachLeafAndItsPlace(t *testing.T) {
	for _, n := range lengths {
		l := leaves(n)
		was := tree.Root(l)
		for i := range l {
			other := slices.Clone(l)
			other[i][31] ^= 1
			if tree.Root(other) == was {
				t.Errorf("P3.1: Root of %d is the same with another leaf at %d", n, i)
			}
			turned := slices.Clone(l)
			turned[0], turned[i] = turned[i], turned[0]
			if i > 0 && tree.Root(turned) == was {
				t.Errorf("P3.1: Root of %d is the same with the first and the one at %d changed over", n, i)
			}
		}
	}
}

func TestRootOfLikeLeaves(t *testing.T) {
	for _, n := range lengths {
		l := make([]api.Digest, n)
		if got, want := tree.Root(l), top(l); got != want {
			t.Errorf("P3.1: Root of %d zero digests: %x; want %x", n, got, want)
		}
	}
}

func TestLongerListKeepsTheRootOfItsFirst(t *testing.T) {
	for _, n := range lengths {
		l := leaves(n)
		for m := range n + 1 {
			first := slices.Clone(l[:m])
			if tree.Root(l[:m]) != tree.Root(first) {
				t.Errorf("P3.4: the first %d of %d have another root than they have alone", m, n)
			}
			changed := slices.Clone(l)
			for i := m; i < n; i++ {
				changed[i] = api.Digest{}
			}
			if tree.Root(changed[:m]) != tree.Root(first) {
				t.Errorf("P3.4: what stands behind the first %d of %d changes their root", m, n)
			}
		}
	}
}
