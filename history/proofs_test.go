package history_test

import (
	"slices"
	"testing"

	"estreat/api"
	"estreat/check"
	"estreat/entry"
	"estreat/head"
	"estreat/history"
	"estreat/sha"
	"estreat/tree"
)

func wantRoot(t *testing.T, l []api.Item, n int, want api.Digest, err api.Errno) {
	t.Helper()
	if d, e := history.Root(l, n); d != want || e != err {
		t.Errorf("P11.3: Root of %d items, %d, is %x, %d; want %x, %d", len(l), n, d, e, want, err)
	}
}

func wantHead(t *testing.T, l []api.Item, n, region, epoch, tick int, want api.Head, err api.Errno) {
	t.Helper()
	if h, e := history.Head(l, n, region, epoch, tick); h != want || e != err {
		t.Errorf("P11.3: Head of %d items, %d, %d, %d, %d, is %+v, %d; want %+v, %d", len(l), n, region, epoch, tick, h, e, want, err)
	}
}

func wantInclusion(t *testing.T, l []api.Item, n, i int, want []api.Digest, err api.Errno) {
	t.Helper()
	if p, e := history.Inclusion(l, n, i); !slices.Equal(p, want) || e != err || e != api.OK && p != nil {
		t.Errorf("P11.3: Inclusion of %d items, %d, %d, is %x, %d; want %x, %d", len(l), n, i, p, e, want, err)
	}
}

func wantConsistency(t *testing.T, l []api.Item, m, n int, want []api.Digest, err api.Errno) {
	t.Helper()
	if p, e := history.Consistency(l, m, n); !slices.Equal(p, want) || e != err || e != api.OK && p != nil {
		t.Errorf("P11.3: Consistency of %d items, %d, %d, is %x, %d; want %x, %d", len(l), m, n, p, e, want, err)
	}
}

// wantRefused holds all four calls against one error.
func wantRefused(t *testing.T, l []api.Item, n int, err api.Errno) {
	t.Helper()
	wantRoot(t, l, n, api.Digest{}, err)
	wantHead(t, l, n, 1, 1, 0, api.Head{}, err)
	wantInclusion(t, l, n, 0, nil, err)
	wantConsistency(t, l, 0, n, nil, err)
}

// wantAt holds what is told of the first n against the model's leaves, and against the layers below.
func wantAt(t *testing.T, l []api.Item, leaves []api.Digest, n int) api.Digest {
	t.Helper()
	var below []api.Digest
	for _, x := range l[:n] {
		leaf, _ := entry.Leaf(x)
		below = append(below, leaf)
	}
	if !slices.Equal(below, leaves[:n]) {
		t.Fatalf("the leaves of the test are not chapter 8's")
	}
	root := rootOf(leaves[:n])
	if root != tree.Root(below) {
		t.Fatalf("the roots of the test are not chapter 3's")
	}
	wantRoot(t, l, n, root, api.OK)
	h := api.Head{Region: 2, Epoch: 30, Size: n, Root: root, Tick: 700}
	wantHead(t, l, n, 2, 30, 700, h, api.OK)
	if e := head.Check(h); e != api.OK {
		t.Errorf("P11.3: the head %+v is not right: %d", h, e)
	}
	return root
}

func wantIncluded(t *testing.T, l []api.Item, leaves []api.Digest, root api.Digest, n, i int) {
	t.Helper()
	wantInclusion(t, l, n, i, inclusionOf(leaves[:n], i), api.OK)
	p, _ := history.Inclusion(l, n, i)
	if q, _ := tree.Inclusion(leaves[:n], i); !slices.Equal(p, q) {
		t.Errorf("P11.3: the proof of %d in %d is not chapter 3's", i, n)
	}
	if e := check.Included(root, n, i, leaves[i], p); e != api.OK {
		t.Errorf("P11.4: the proof of %d in %d is refused: %d", i, n, e)
	}
}

func wantConsistent(t *testing.T, l []api.Item, leaves []api.Digest, root api.Digest, m, n int) {
	t.Helper()
	wantConsistency(t, l, m, n, consistencyOf(leaves[:n], m, true), api.OK)
	p, _ := history.Consistency(l, m, n)
	if q, _ := tree.Consistency(leaves[:n], m); !slices.Equal(p, q) {
		t.Errorf("P11.3: the proof from %d to %d is not chapter 3's", m, n)
	}
	if e := check.Consistent(m, rootOf(leaves[:m]), n, root, p); e != api.OK {
		t.Errorf("P11.4: the proof from %d to %d is refused: %d", m, n, e)
	}
}

func TestEachRootAndProofOfALog(t *testing.T) {
	t.Parallel()
	l := made(36)
	leaves := leavesOf(l)
	for n := range len(l) + 1 {
		root := wantAt(t, l, leaves, n)
		for i := range n {
			wantIncluded(t, l, leaves, root, n, i)
		}
		for m := range n + 1 {
			wantConsistent(t, l, leaves, root, m, n)
		}
	}
}

// Each log by itself has of its first n what the longest has.
func TestRootsOfWhatWasThereStay(t *testing.T) {
	t.Parallel()
	long := made(70)
	leaves := leavesOf(long)
	for size := range len(long) + 1 {
		l := slices.Clone(long[:size])
		for _, n := range []int{0, 1, size / 3, size / 2, size - 1, size} {
			if n >= 0 && n <= size {
				wantRoot(t, l, n, rootOf(leaves[:n]), api.OK)
				wantConsistency(t, l, n, size, consistencyOf(leaves[:size], n, true), api.OK)
			}
		}
	}
	// And whatever comes behind, it leaves them.
	for _, x := range []api.Item{user(1000, 1, 1000), anchor(1000), claim(1000), text(1000, 3, 999, "other")} {
		grown := behind(long[:40], x)
		for n := range 41 {
			wantRoot(t, grown, n, rootOf(leaves[:n]), api.OK)
		}
	}
}

func TestRootsAndProofsOfAFullLog(t *testing.T) {
	t.Parallel()
	l := made(2000)
	leaves := leavesOf(l)
	for _, n := range []int{0, 1, 2, 3, 1023, 1024, 1025, 1999, 2000} {
		root := wantAt(t, l, leaves, n)
		for _, i := range []int{0, 1, 2, 511, 512, 1023, 1024, n / 2, n - 2, n - 1} {
			if i >= 0 && i < n {
				wantIncluded(t, l, leaves, root, n, i)
			}
		}
		for _, m := range []int{0, 1, 2, 512, 1000, 1024, 1025, n - 1, n} {
			if m >= 0 && m <= n {
				wantConsistent(t, l, leaves, root, m, n)
			}
		}
		wantInclusion(t, l, n, n, nil, api.ErrTreeIndex)
		wantInclusion(t, l, n, -1, nil, api.ErrTreeIndex)
		wantConsistency(t, l, n+1, n, nil, api.ErrTreeSize)
		wantConsistency(t, l, -1, n, nil, api.ErrTreeSize)
	}
	wantRefused(t, l, 2001, api.ErrTreeSize)
	wantRefused(t, l, -1, api.ErrTreeSize)
}

func TestOfNoItem(t *testing.T) {
	for _, l := range [][]api.Item{nil, {}} {
		wantRoot(t, l, 0, sha.Empty(), api.OK)
		wantHead(t, l, 0, 1, 1, 0, api.Head{Region: 1, Epoch: 1, Root: sha.Empty()}, api.OK)
		wantInclusion(t, l, 0, 0, nil, api.ErrTreeIndex)
		wantConsistency(t, l, 0, 0, nil, api.OK)
		wantConsistency(t, l, 1, 0, nil, api.ErrTreeSize)
		for _, n := range append(farOff, 1, 2, 2000) {
			wantRefused(t, l, n, api.ErrTreeSize)
		}
	}
}

// A leaf's root is the leaf: here an item's bytes are written out.
func TestOfOneItem(t *testing.T) {
	leaf := sha.Leaf("\x01\x00\x00\x01\x01" + "\x02\x00\x00\x15" + "\x01\x00\x00\x01\x01" + "\x02\x00\x00\x01\x01" + "\x03\x00\x00\x01\x02" + "\x04\x00\x00\x02ab")
	l := []api.Item{text(1, 1, 2, "ab")}
	wantRoot(t, l, 1, leaf, api.OK)
	wantRoot(t, l, 0, sha.Empty(), api.OK)
	wantHead(t, l, 1, 3, 4, 5, api.Head{Region: 3, Epoch: 4, Size: 1, Root: leaf, Tick: 5}, api.OK)
	wantInclusion(t, l, 1, 0, nil, api.OK)
	wantInclusion(t, l, 0, 0, nil, api.ErrTreeIndex)
	wantConsistency(t, l, 0, 1, nil, api.OK)
	wantConsistency(t, l, 1, 1, nil, api.OK)
	wantConsistency(t, l, 0, 0, nil, api.OK)
	wantConsistency(t, l, 1, 0, nil, api.ErrTreeSize)
	wantRefused(t, l, 2, api.ErrTreeSize)
	wantRoot(t, []api.Item{user(1, 1, 1)}, 2, api.Digest{}, api.ErrTreeSize)
}

// Every edge item's leaf is its own in the tree.
func TestOfEachKindOfItem(t *testing.T) {
	for _, x := range edgeItems() {
		l := []api.Item{x, user(900000000, 1, 1), x}
		l[2].Epoch = 900000000
		leaves := leavesOf(l)
		for n := range 4 {
			root := wantAt(t, l, leaves, n)
			for i := range n {
				wantIncluded(t, l, leaves, root, n, i)
				wantConsistent(t, l, leaves, root, i, n)
			}
		}
	}
}

func TestPlacesThatThereAreNot(t *testing.T) {
	l := made(12)
	for n := range 13 {
		for _, i := range append(farOff, n, n+1, 12, 13, 2000) {
			if i < 0 || i >= n {
				wantInclusion(t, l, n, i, nil, api.ErrTreeIndex)
			}
		}
		for _, m := range append(farOff, n+1, n+2, 13, 2000) {
			wantConsistency(t, l, m, n, nil, api.ErrTreeSize)
		}
	}
	for _, n := range append(farOff, 13, 14, 2000) {
		wantRefused(t, l, n, api.ErrTreeSize)
		// The size is told ahead of a place that there is not, and of a head that is not right.
		for _, i := range []int{-1, 0, 12, n, n + 1} {
			wantInclusion(t, l, n, i, nil, api.ErrTreeSize)
			wantConsistency(t, l, i, n, nil, api.ErrTreeSize)
			wantHead(t, l, n, i-1, 0, -1, api.Head{}, api.ErrTreeSize)
		}
	}
}

// A log that is wrong anywhere has no root, not even one of its first items.
func TestWrongLogsHaveNoRoots(t *testing.T) {
	for what, l := range wrongLogs() {
		if logIsRight(l) {
			t.Fatalf("%s: the log is meant to be wrong", what)
		}
		for _, n := range append(farOff, 0, 1, 8, 9, len(l)-1, len(l), len(l)+1) {
			wantRefused(t, l, n, api.ErrHistoryForm)
			wantInclusion(t, l, n, -1, nil, api.ErrHistoryForm)
			wantConsistency(t, l, n+1, n, nil, api.ErrHistoryForm)
			wantHead(t, l, n, 0, 0, -1, api.Head{}, api.ErrHistoryForm)
		}
	}
	for _, x := range wrongItems() {
		wantRefused(t, []api.Item{user(1, 1, 1), x}, 1, api.ErrHistoryForm)
		wantRefused(t, []api.Item{user(1, 1, 1), x}, 3, api.ErrHistoryForm)
	}
}

func TestHeadOfRegionsEpochsAndTicks(t *testing.T) {
	l := made(5)
	root := rootOf(leavesOf(l)[:3])
	numbers := append(farOff, 0, 1, 2, 5, 6, 256, 2000, 900000000)
	for _, region := range numbers {
		for _, epoch := range numbers {
			for _, tick := range numbers {
				h, err := api.Head{Region: region, Epoch: epoch, Size: 3, Root: root, Tick: tick}, api.OK
				if !headIsRight(h) {
					h, err = api.Head{}, api.ErrHistoryForm
				}
				wantHead(t, l, 3, region, epoch, tick, h, err)
			}
		}
	}
	for _, x := range []struct {
		region, epoch, tick int
		err                 api.Errno
	}{
		{1, 1, 0, api.OK}, {5, 900000000, 900000000, api.OK}, {0, 1, 0, api.ErrHistoryForm}, {6, 1, 0, api.ErrHistoryForm}, {1, 0, 0, api.ErrHistoryForm},
		{1, 900000001, 0, api.ErrHistoryForm}, {1, 1, -1, api.ErrHistoryForm}, {1, 1, 900000001, api.ErrHistoryForm},
	} {
		if _, e := history.Head(l, 5, x.region, x.epoch, x.tick); e != x.err {
			t.Errorf("P11.3: Head of region %d, epoch %d, tick %d is %d; want %d", x.region, x.epoch, x.tick, e, x.err)
		}
	}
}

// The head's epoch is the one that is handed in, be it above or below those of the items.
func TestHeadTakesAnyEpoch(t *testing.T) {
	l := []api.Item{claim(5), claim(6)}
	root := rootOf(leavesOf(l))
	for _, epoch := range []int{1, 4, 5, 6, 7} {
		wantHead(t, l, 2, 4, epoch, 9, api.Head{Region: 4, Epoch: epoch, Size: 2, Root: root, Tick: 9}, api.OK)
	}
}
