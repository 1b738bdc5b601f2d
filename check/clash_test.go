package check_test

import (
	"bytes"
	"encoding/json"
	"math"
	"math/rand"
	"os"
	"os/exec"
	"path/filepath"
	"slices"
	"strings"
	"testing"

	"estreat/api"
	"estreat/check"
	"estreat/sha"
	"estreat/tree"
)

func wantNoClash(t *testing.T, what string, root api.Digest, size, index int, a api.Digest, p []api.Digest, b api.Digest, q []api.Digest) {
	t.Helper()
	if s, u, ok := check.Clash(root, size, index, a, p, b, q); ok || s != "" || u != "" {
		t.Errorf("P5.3: Clash, %s, size %d, index %d, %d and %d digests: %q, %q, %t; want none", what, size, index, len(p), len(q), s, u, ok)
	}
}

// wantNoClashes asks the one way and the other.
func wantNoClashes(t *testing.T, what string, root api.Digest, size, index int, a api.Digest, p []api.Digest, b api.Digest, q []api.Digest) {
	t.Helper()
	wantNoClash(t, what, root, size, index, a, p, b, q)
	wantNoClash(t, what, root, size, index, b, q, a, p)
}

func TestLikeLeavesDoNotClash(t *testing.T) {
	leaf := leaves(1)[0]
	for _, size := range slices.Concat(lengths, longLengths) {
		for _, i := range places(size) {
			proof := digests("proof", way(size, i))
			root, _ := included(size, i, leaf, proof)
			wantNoClash(t, "the same leaf and proof", root, size, i, leaf, proof, leaf, proof)
			wantNoClash(t, "the same leaf and a like proof", root, size, i, leaf, proof, leaf, slices.Clone(proof))
			for at := range proof {
				wantNoClashes(t, "the same leaf and another proof", root, size, i, leaf, proof, leaf, changed(proof, at))
			}
		}
	}
}

func TestRefusedLeavesDoNotClash(t *testing.T) {
	leaf, other := leaves(2)[0], leaves(2)[1]
	for _, size := range slices.Concat(lengths, longLengths) {
		for _, i := range places(size) {
			proof := digests("proof", way(size, i))
			root, _ := included(size, i, leaf, proof)
			longer := append(slices.Clone(proof), other)
			wantNoClashes(t, "another leaf", root, size, i, leaf, proof, other, proof)
			wantNoClashes(t, "another leaf, another proof", root, size, i, leaf, proof, other, digests("other", len(proof)))
			wantNoClashes(t, "a proof too long", root, size, i, leaf, proof, other, longer)
			wantNoClashes(t, "the same leaf, a proof too long", root, size, i, leaf, proof, leaf, longer)
			wantNoClash(t, "both refused", other, size, i, leaf, proof, other, proof)
			wantNoClash(t, "both refused, and like", other, size, i, leaf, proof, leaf, proof)
			wantNoClash(t, "both too long", root, size, i, leaf, longer, other, longer)
			if len(proof) > 0 {
				wantNoClashes(t, "a proof too short", root, size, i, leaf, proof, other, proof[1:])
				wantNoClashes(t, "no proof", root, size, i, leaf, proof, other, nil)
				wantNoClashes(t, "the root as a leaf", root, size, i, leaf, proof, root, nil)
				wantNoClash(t, "both too short", root, size, i, leaf, proof[1:], other, proof[1:])
			}
		}
	}
}

func TestLeavesOfNoPlaceDoNotClash(t *testing.T) {
	l := leaves(2)
	many := digests("proof", 20)
	for _, size := range append([]int{0, 1, 2, 3, 100000}, wrongLengths...) {
		for _, i := range []int{math.MinInt, -2, -1, size, size + 1, math.MaxInt} {
			for n := range many {
				wantNoClash(t, "no such place", l[0], size, i, l[0], many[:n], l[1], many[:n])
				wantNoClash(t, "no such place, like", l[0], size, i, l[0], many[:n], l[0], many[:n])
			}
		}
	}
	for _, size := range append([]int{0}, wrongLengths...) {
		for _, i := range []int{0, 1, size - 1} {
			for n := range many {
				wantNoClash(t, "no such size", l[0], size, i, l[0], many[:n], l[1], many[:n])
			}
		}
	}
	// What both make would be the root, if the size were not too great.
	proof := digests("proof", way(100001, 7))
	root, _ := included(100001, 7, l[0], proof)
	wantNoClash(t, "one too many", root, 100001, 7, l[0], proof, l[0], proof)
	wantNoClashes(t, "one too many", root, 100001, 7, l[0], proof, l[1], proof)
}

func TestOneLeafAloneDoesNotClash(t *testing.T) {
	l := leaves(2)
	wantNoClash(t, "the leaf itself", l[0], 1, 0, l[0], nil, l[0], nil)
	wantNoClashes(t, "another leaf", l[0], 1, 0, l[0], nil, l[1], nil)
	wantNoClashes(t, "another leaf, with a digest", l[0], 1, 0, l[0], nil, l[1], l[:1])
	wantNoClash(t, "zeros", api.Digest{}, 1, 0, api.Digest{}, nil, api.Digest{}, nil)
}

// weak is a sum of two bits, of which two unlike texts with one sum are soon found; else it is as package sha.
const weak = `package sha

import "estreat/api"

func Of(parts ...string) api.Digest {
	n, at := 0, 0
	for _, p := range parts {
		for _, c := range []byte(p) {
			at++
			n += at * int(c)
		}
	}
	return api.Digest{byte(n % 4)}
}

func Empty() api.Digest { return Of() }

func Leaf(data string) api.Digest { return Of("\x00", data) }

func Knot(left, right api.Digest) api.Digest {
	return Of("\x01", string(left[:]), string(right[:]))
}

func Hex(d api.Digest) string { return "" }

func Parse(s string) (api.Digest, api.Errno) { return api.Digest{}, api.ErrArg }
`

// No two unlike texts with one sum are known, so the texts that Clash tells are asked for with weak sums: in a run of its own, in which the file above stands for package sha.
func TestClashOfWeakSums(t *testing.T) {
	if os.Getenv("ESTREAT_SUMS") == "weak" {
		clashesOfWeakSums(t)
		return
	}
	tool, err := exec.LookPath("go")
	files, _ := filepath.Glob(filepath.Join("..", "sha", "*.go"))
	files = slices.DeleteFunc(files, func(name string) bool { return strings.HasSuffix(name, "_test.go") })
	if err != nil || len(files) == 0 {
		t.Skip("there is no go command, or no source of package sha")
	}
	run := exec.Command(tool, "test", "-count=1", "-vet=off", "-v", "-overlay", overlay(t, files), "-run", "^TestClashOfWeakSums$", ".")
	run.Env = append(os.Environ(), "ESTREAT_SUMS=weak")
	out, err := run.CombinedOutput()
	if err != nil || !bytes.Contains(out, []byte("--- PASS: TestClashOfWeakSums")) {
		t.Errorf("P5.3, P5.4: Clash, with weak sums: %v\n%s", err, out)
	}
}

// overlay tells the go command to take the weak sums for all of package sha's files.
func overlay(t *testing.T, files []string) string {
	dir := t.TempDir()
	source := filepath.Join(dir, "weak.go")
	replace := map[string]string{}
	for i, f := range files {
		path, err := filepath.Abs(f)
		if err != nil {
			t.Fatal(err)
		}
		replace[path] = ""
		if i == 0 {
			replace[path] = source
		}
	}
	table, err := json.Marshal(map[string]any{"Replace": replace})
	if err != nil {
		t.Fatal(err)
	}
	list := filepath.Join(dir, "overlay.json")
	for name, data := range map[string][]byte{source: []byte(weak), list: table} {
		if err := os.WriteFile(name, data, 0o600); err != nil {
			t.Fatal(err)
		}
	}
	return list
}

// texts are what is summed on the way of a leaf and its proof, from the root down to the leaf, and what they make.
func texts(size, index int, leaf api.Digest, proof []api.Digest) ([]string, api.Digest) {
	if size == 1 {
		return nil, leaf
	}
	end := len(proof) - 1
	last := proof[end]
	split := tree.Split(size)
	var below []string
	var left, right api.Digest
	if index < split {
		below, left = texts(split, index, leaf, proof[:end])
		right = last
	} else {
		left = last
		below, right = texts(size-split, index-split, leaf, proof[:end])
	}
	text := "\x01" + string(left[:]) + string(right[:])
	return append([]string{text}, below...), sha.Of(text)
}

func clashesOfWeakSums(t *testing.T) {
	random := rand.New(rand.NewSource(5))
	made := func() api.Digest { return api.Digest{byte(random.Intn(4)), 31: byte(random.Intn(3))} }
	found := make([]int, 20)
	for _, size := range []int{2, 3, 4, 5, 6, 7, 8, 9, 13, 16, 17, 33, 64, 65, 99999, 100000} {
		for _, index := range places(size) {
			for range 300 {
				a, p := made(), make([]api.Digest, way(size, index))
				for i := range p {
					p[i] = made()
				}
				// The other has the same digests from some place on, so that the two go together for a while.
				b, q := made(), slices.Clone(p)
				for i := range random.Intn(len(q) + 1) {
					q[i] = made()
				}
				if at, ok := weakClash(t, size, index, a, p, b, q); ok {
					found[at]++
				}
			}
		}
	}
	for at := range 17 {
		if found[at] == 0 {
			t.Errorf("no clash %d knots below the root was tried", at)
		}
	}
}

// weakClash holds Clash against the texts on both ways; it tells where they part, if they do.
func weakClash(t *testing.T, size, index int, a api.Digest, p []api.Digest, b api.Digest, q []api.Digest) (int, bool) {
	one, root := texts(size, index, a, p)
	other, same := texts(size, index, b, q)
	if a == b || root != same {
		wantNoClashes(t, "weak sums", root, size, index, a, p, b, q)
		return 0, false
	}
	at := 0
	for one[at] == other[at] {
		at++
	}
	wasP, wasQ := slices.Clone(p), slices.Clone(q)
	s, u, ok := check.Clash(root, size, index, a, p, b, q)
	if !slices.Equal(p, wasP) || !slices.Equal(q, wasQ) {
		t.Errorf("R2: Clash changes a proof of size %d, index %d", size, index)
	}
	if !ok || s != one[at] || u != other[at] {
		t.Errorf("P5.3: Clash of weak sums, size %d, index %d: %q, %q, %t; want %q, %q", size, index, s, u, ok, one[at], other[at])
	}
	if s == u || len(s) != 65 || len(u) != 65 || s[0] != 1 || u[0] != 1 || sha.Of(s) != sha.Of(u) {
		t.Errorf("P5.4: Clash of weak sums, size %d, index %d: %q, %q are not two unlike texts with one sum", size, index, s, u)
	}
	wantNoClash(t, "weak sums, another root", api.Digest{9}, size, index, a, p, b, q)
	wantNoClash(t, "weak sums, a proof too long", root, size, index, a, p, b, append(slices.Clone(q), a))
	return at, true
}
