package front_test

import (
	"crypto/sha256"
	"encoding/binary"
	"math"
	"slices"
	"testing"

	"estreat/api"
	"estreat/front"
	"estreat/sha"
)

// lengths are the named edges, and powers of 2 with their neighbours.
var lengths = []int{0, 1, 2, 3, 4, 5, 6, 7, 8, 9, 12, 15, 16, 17, 31, 32, 33, 63, 64, 65, 100, 127, 128, 129}

// longLengths are as many, up to the greatest.
var longLengths = []int{65535, 65536, 65537, 99998, 99999, 100000}

// leaves are n digests, no two alike.
func leaves(n int) []api.Digest {
	l := make([]api.Digest, n)
	for i := range l {
		l[i] = sha256.Sum256(binary.BigEndian.AppendUint64([]byte("leaf"), uint64(i)))
	}
	return l
}

// knot is worked out by the library, so that the tests do not lean on the program's own sums.
func knot(left, right api.Digest) api.Digest {
	return sha256.Sum256(slices.Concat([]byte{1}, left[:], right[:]))
}

// top is a list's root, made in pairs from the leaves up; one that has no other goes up as it is.
func top(l []api.Digest) api.Digest {
	if len(l) == 0 {
		return sha256.Sum256(nil)
	}
	for len(l) > 1 {
		var up []api.Digest
		for i := 0; i < len(l); i += 2 {
			if i+1 < len(l) {
				up = append(up, knot(l[i], l[i+1]))
			} else {
				up = append(up, l[i])
			}
		}
		l = up
	}
	return l[0]
}

// peaks are the roots of a list's parts, the greatest power of 2 that there is cut off each time.
func peaks(l []api.Digest) []api.Digest {
	var p []api.Digest
	for part := 1 << 20; part > 0; part /= 2 {
		if len(l) >= part {
			p = append(p, top(l[:part]))
			l = l[part:]
		}
	}
	return p
}

// ones is how many bits 1 a length has.
func ones(n int) int {
	k := 0
	for ; n > 0; n /= 2 {
		k += n % 2
	}
	return k
}

func wantFront(t *testing.T, promise, call string, got front.Front, e api.Errno, size int, want []api.Digest) {
	t.Helper()
	if e != api.OK || got.Size != size || !slices.Equal(got.Peaks, want) {
		t.Errorf("%s: %s at size %d: size %d, peaks %x, error %d; want peaks %x", promise, call, size, got.Size, got.Peaks, e, want)
	}
}

func wantRefused(t *testing.T, promise, call string, got front.Front, e, want api.Errno) {
	t.Helper()
	if e != want || got.Size != 0 || len(got.Peaks) != 0 {
		t.Errorf("%s: %s: size %d, %d peaks, error %d; want a zero front, error %d", promise, call, got.Size, len(got.Peaks), e, want)
	}
}

func TestCheckOfEverySize(t *testing.T) {
	all := leaves(20)
	for size := range api.MaxSize + 1 {
		right := ones(size)
		for n := max(right-2, 0); n <= right+2; n++ {
			want := api.ErrFrontForm
			if n == right {
				want = api.OK
			}
			if e := front.Check(front.Front{Size: size, Peaks: all[:n]}); e != want {
				t.Fatalf("P4.1: Check(size %d, %d peaks): %d; want %d", size, n, e, want)
			}
		}
	}
}

func TestCheckAtTheEdges(t *testing.T) {
	for _, x := range []struct {
		size, peaks int
		want        api.Errno
	}{
		{0, 0, api.OK},
		{0, 1, api.ErrFrontForm},
		{1, 0, api.ErrFrontForm},
		{1, 1, api.OK},
		{1, 2, api.ErrFrontForm},
		{2, 1, api.OK},
		{2, 2, api.ErrFrontForm},
		{3, 1, api.ErrFrontForm},
		{3, 2, api.OK},
		{3, 3, api.ErrFrontForm},
		{7, 3, api.OK},
		{8, 1, api.OK},
		{65535, 16, api.OK},
		{65535, 15, api.ErrFrontForm},
		{65536, 1, api.OK},
		{99999, 9, api.ErrFrontForm},
		{99999, 10, api.OK},
		{99999, 11, api.ErrFrontForm},
		{100000, 5, api.ErrFrontForm},
		{100000, 6, api.OK},
		{100000, 7, api.ErrFrontForm},
		{100001, 7, api.ErrFrontForm},
	} {
		if e := front.Check(front.Front{Size: x.size, Peaks: leaves(x.peaks)}); e != x.want {
			t.Errorf("P4.1: Check(size %d, %d peaks): %d; want %d", x.size, x.peaks, e, x.want)
		}
	}
	if e := front.Check(front.Front{}); e != api.OK {
		t.Errorf("P4.1: Check of a front without peaks: %d", e)
	}
}

// wrongSizes are none of a list, whatever peaks there are.
var wrongSizes = []int{
	math.MinInt, math.MinInt + 1, math.MinInt32, -1 << 17, -100001, -100000, -99999, -3, -2, -1,
	100001, 100002, 131071, 131072, 200000, math.MaxInt32, 1 << 32, 1<<32 + 1, 1 << 62, math.MaxInt - 1, math.MaxInt,
}

func TestWrongSizesAreRefused(t *testing.T) {
	all := leaves(66)
	leaf := sha256.Sum256(nil)
	for _, size := range wrongSizes {
		for n := range len(all) {
			f := front.Front{Size: size, Peaks: all[:n]}
			if e := front.Check(f); e != api.ErrFrontForm {
				t.Errorf("P4.1: Check(size %d, %d peaks): %d; want ErrFrontForm", size, n, e)
			}
			got, e := front.Add(f, leaf)
			wantRefused(t, "P4.2", "Add to a wrong size", got, e, api.ErrFrontForm)
			if d, e := front.Root(f); e != api.ErrFrontForm || d != (api.Digest{}) {
				t.Errorf("P4.2: Root(size %d, %d peaks): %x, error %d; want ErrFrontForm", size, n, d, e)
			}
		}
	}
}

func TestCheckAsksNotWhatThePeaksAre(t *testing.T) {
	for _, size := range append(slices.Clone(longLengths), lengths...) {
		if e := front.Check(front.Front{Size: size, Peaks: make([]api.Digest, ones(size))}); e != api.OK {
			t.Errorf("P4.1: Check(size %d, peaks of zeros): %d", size, e)
		}
	}
}

func TestOfFew(t *testing.T) {
	l := leaves(9)
	ab, cd, ef, gh := knot(l[0], l[1]), knot(l[2], l[3]), knot(l[4], l[5]), knot(l[6], l[7])
	abcd := knot(ab, cd)
	whole := knot(abcd, knot(ef, gh))
	for n, want := range [][]api.Digest{
		nil,
		{l[0]},
		{ab},
		{ab, l[2]},
		{abcd},
		{abcd, l[4]},
		{abcd, ef},
		{abcd, ef, l[6]},
		{whole},
		{whole, l[8]},
	} {
		got, e := front.Of(l[:n])
		wantFront(t, "P4.1", "Of", got, e, n, want)
	}
	got, e := front.Of(nil)
	wantFront(t, "P4.1", "Of(nil)", got, e, 0, nil)
}

func TestOfEveryLength(t *testing.T) {
	all := leaves(300)
	for n := range len(all) + 1 {
		got, e := front.Of(all[:n])
		wantFront(t, "P4.1", "Of", got, e, n, peaks(all[:n]))
	}
}

func TestOfLongLists(t *testing.T) {
	all := leaves(api.MaxSize)
	for _, n := range longLengths {
		got, e := front.Of(all[:n])
		wantFront(t, "P4.1", "Of", got, e, n, peaks(all[:n]))
		if len(got.Peaks) != ones(n) || front.Check(got) != api.OK {
			t.Errorf("P4.1: Of(%d leaves) is not right", n)
		}
	}
}

func TestOfLikeLeaves(t *testing.T) {
	for _, n := range lengths {
		l := make([]api.Digest, n)
		got, e := front.Of(l)
		wantFront(t, "P4.1", "Of zero digests", got, e, n, peaks(l))
	}
}

func TestOfRefusesTooMany(t *testing.T) {
	all := make([]api.Digest, 1<<18)
	for _, n := range []int{100001, 100002, 131071, 131072, 131073, 200000, 1 << 18} {
		got, e := front.Of(all[:n])
		wantRefused(t, "P4.1", "Of too many", got, e, api.ErrLimit)
	}
}

func TestExamples(t *testing.T) {
	a, b, c := sha.Leaf("a"), sha.Leaf("b"), sha.Leaf("c")
	f, e := front.Of([]api.Digest{a, b, c})
	wantFront(t, "P4.1", "Of(A B C)", f, e, 3, []api.Digest{sha.Knot(a, b), c})
	if d, e := front.Root(f); e != api.OK || d != sha.Knot(sha.Knot(a, b), c) {
		t.Errorf("P4.2: Root of A B C: %x, error %d", d, e)
	}
	if d, e := front.Root(front.Front{}); e != api.OK || d != sha.Empty() {
		t.Errorf("P4.2: Root(zero): %x, error %d", d, e)
	}
	if e := front.Check(front.Front{Size: 3, Peaks: []api.Digest{a}}); e != api.ErrFrontForm {
		t.Errorf("P4.1: Check(size 3, one peak): %d", e)
	}
}
