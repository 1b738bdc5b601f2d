package check_test

import (
	"math"
	"slices"
	"testing"

	"estreat/api"
	"estreat/check"
	"estreat/sha"
)

// numbers are sizes and places of all kinds.
var numbers = []int{
	math.MinInt, math.MinInt + 1, math.MinInt32, -100001, -100000, -3, -2, -1, 0, 1, 2, 3, 4, 5, 7, 8, 9, 15, 16, 17,
	65535, 65536, 65537, 99999, 100000, 100001, 131072, math.MaxInt32, 1 << 32, 1<<62 - 1, 1 << 62, math.MaxInt - 1, math.MaxInt,
}

func TestCallsEndAtAllArguments(t *testing.T) {
	l := leaves(64)
	roots := []api.Digest{{}, sha.Empty(), l[0]}
	for _, x := range numbers {
		for _, y := range numbers {
			for _, n := range []int{0, 1, 2, 3, 16, 17, 18, 62, 63, 64} {
				proof := l[:n]
				for _, root := range roots {
					switch e := check.Included(root, x, y, l[0], proof); e {
					case api.OK, api.ErrCheckForm, api.ErrCheckRoot:
					default:
						t.Errorf("R1: Included(size %d, index %d, %d digests): %d", x, y, n, e)
					}
					switch e := check.Consistent(x, root, y, l[0], proof); e {
					case api.OK, api.ErrCheckForm, api.ErrCheckRoot:
					default:
						t.Errorf("R1: Consistent(m %d, n %d, %d digests): %d", x, y, n, e)
					}
					wantNoClash(t, "any numbers", root, x, y, l[0], proof, l[1], proof)
				}
			}
		}
	}
}

func TestNoListIsAsAnEmptyOne(t *testing.T) {
	l := leaves(1)
	for _, x := range numbers {
		for _, y := range numbers {
			if check.Included(l[0], x, y, l[0], nil) != check.Included(l[0], x, y, l[0], []api.Digest{}) {
				t.Errorf("R2: Included(size %d, index %d) of a nil proof is otherwise than of an empty one", x, y)
			}
			if check.Consistent(x, sha.Empty(), y, l[0], nil) != check.Consistent(x, sha.Empty(), y, l[0], []api.Digest{}) {
				t.Errorf("R2: Consistent(m %d, n %d) of a nil proof is otherwise than of an empty one", x, y)
			}
		}
	}
}

func TestArgumentsStay(t *testing.T) {
	d := leaves(3)
	for _, size := range slices.Concat([]int{-1, 0, 100001}, lengths, longLengths) {
		for _, at := range []int{-1, 0, 1, size / 2, size - 1, size, size + 1} {
			// Proofs are parts of longer lists: nothing may be written behind them either.
			p, q := digests("proof", 40), digests("other", 40)
			for n := range 20 {
				check.Included(d[0], size, at, d[1], p[:n])
				check.Consistent(at, d[0], size, d[1], p[:n])
				check.Clash(d[0], size, at, d[1], p[:n], d[2], q[:n])
				check.Clash(d[0], size, at, d[1], p[:n], d[2], p[:n])
			}
			if !slices.Equal(p, digests("proof", 40)) || !slices.Equal(q, digests("other", 40)) {
				t.Errorf("R2: a proof, or what lies behind it, is changed (size %d, place %d)", size, at)
			}
		}
	}
}

func TestProofsThatAreFoundOKStay(t *testing.T) {
	leaf := leaves(1)[0]
	for _, size := range slices.Concat(lengths, longLengths) {
		for _, i := range places(size) {
			n := way(size, i)
			whole := digests("proof", n+20)
			root, _ := included(size, i, leaf, whole[:n])
			wantIncluded(t, "a part of a list", root, size, i, leaf, whole[:n], api.OK)
			wantNoClash(t, "a part of a list", root, size, i, leaf, whole[:n], leaf, whole[:n])
			if !slices.Equal(whole, digests("proof", n+20)) {
				t.Errorf("R2: a proof of size %d, index %d, or what lies behind it, is changed", size, i)
			}
		}
		for _, m := range beginnings(size) {
			n := growth(m, size)
			whole := digests("proof", n+20)
			old, root, _ := consistent(m, size, leaf, slices.Clone(whole[:n]))
			wantConsistent(t, "a part of a list", m, old, size, root, whole[:n], api.OK)
			if !slices.Equal(whole, digests("proof", n+20)) {
				t.Errorf("R2: a proof from %d to %d, or what lies behind it, is changed", m, size)
			}
		}
	}
}

// What was given up on must leave nothing behind for the next call.
func TestCallsAnswerTheSameAgain(t *testing.T) {
	leaf := leaves(1)[0]
	many := digests("proof", 40)
	between := func() {
		check.Included(leaf, 100000, 5, leaf, many)
		check.Consistent(3, leaf, 100000, leaf, nil)
		check.Clash(leaf, 9, 8, leaf, many, leaf, nil)
	}
	for _, size := range slices.Concat(lengths, longLengths) {
		for _, i := range places(size) {
			proof := many[:way(size, i)]
			root, _ := included(size, i, leaf, proof)
			for range 3 {
				wantIncluded(t, "again", root, size, i, leaf, proof, api.OK)
				between()
				wantIncluded(t, "another root again", leaf, size, i, root, proof, errorOfRoots(size))
				wantIncluded(t, "too many again", root, size, i, leaf, many, api.ErrCheckForm)
				wantNoClash(t, "again", root, size, i, leaf, proof, leaf, proof)
			}
		}
	}
}

// errorOfRoots is what leaf and root changed over are told: of one leaf, they are the same.
func errorOfRoots(size int) api.Errno {
	if size == 1 {
		return api.OK
	}
	return api.ErrCheckRoot
}
