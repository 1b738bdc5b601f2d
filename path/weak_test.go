package path_test

import (
	"bytes"
	"encoding/json"
	"fmt"
	"math/rand"
	"os"
	"os/exec"
	"path/filepath"
	"slices"
	"strings"
	"testing"

	"estreat/api"
	"estreat/entry"
	"estreat/path"
)

// weak is a sum of three bits, of which two unlike texts with one sum are soon found; else it is as package sha.
const weak = `package sha

import "estreat/api"

func Of(parts ...string) api.Digest {
	n := 0
	for _, p := range parts {
		for _, c := range []byte(p) {
			n = (5*n + int(c) + 1) % 8
		}
	}
	return api.Digest{byte(n)}
}

func Empty() api.Digest { return Of() }

func Leaf(data string) api.Digest { return Of("\x00", data) }

func Knot(left, right api.Digest) api.Digest {
	return Of("\x01", string(left[:]), string(right[:]))
}

func Hex(d api.Digest) string { return "" }

func Parse(s string) (api.Digest, api.Errno) { return api.Digest{}, api.ErrArg }
`

// No two unlike texts with one sum are known, so what follows of two paths of one head and one place is asked for with weak sums: in a run of its own, in which the file above stands for package sha.
func TestUnlikeItemsClashByWeakSums(t *testing.T) {
	if os.Getenv("ESTREAT_SUMS") == "weak" {
		unlikeItemsOfWeakSums(t)
		return
	}
	tool, err := exec.LookPath("go")
	files, _ := filepath.Glob(filepath.Join("..", "sha", "*.go"))
	files = slices.DeleteFunc(files, func(name string) bool { return strings.HasSuffix(name, "_test.go") })
	if err != nil || len(files) == 0 {
		t.Skip("there is no go command, or no source of package sha")
	}
	run := exec.Command(tool, "test", "-count=1", "-vet=off", "-v", "-overlay", overlay(t, files), "-run", "^TestUnlikeItemsClashByWeakSums$", ".")
	run.Env = append(os.Environ(), "ESTREAT_SUMS=weak")
	out, err := run.CombinedOutput()
	if err != nil || !bytes.Contains(out, []byte("--- PASS: TestUnlikeItemsClashByWeakSums")) {
		t.Errorf("P14.3: with weak sums: %v\n%s", err, out)
	}
}

// overlay tells the go command to take the weak sums for all of package sha's files.
func overlay(t *testing.T, files []string) string {
	dir := t.TempDir()
	source := filepath.Join(dir, "weak.go")
	replace := map[string]string{}
	for i, f := range files {
		name, err := filepath.Abs(f)
		if err != nil {
			t.Fatal(err)
		}
		replace[name] = ""
		if i == 0 {
			replace[name] = source
		}
	}
	table, err := json.Marshal(map[string]any{"Replace": replace})
	if err != nil {
		t.Fatal(err)
	}
	list := filepath.Join(dir, "overlay.json")
	for name, data := range map[string][]byte{source: []byte(weak), list: table} {
		if err := os.WriteFile(name, data, 0o600); err != nil {
			t.Fatal(err)
		}
	}
	return list
}

// unlikeItemsOfWeakSums looks for steps of unlike items that are verified, and holds what it finds against what follows.
func unlikeItemsOfWeakSums(t *testing.T) {
	random := rand.New(rand.NewSource(14))
	clashes, likeLeaves, refused := 0, 0, 0
	for size := 1; size <= 9; size++ {
		l := filled(size)
		s := headUp(t, l, size, 1)
		for i := range size {
			one := makeStep(t, l, i, s)
			wantWeakVerify(t, one, api.OK)
			for k := range 150 {
				other := one
				other.Item = user(1, 100+k)
				other.Item.Entry.Text = fmt.Sprint("unlike ", k)
				other.Proof = slices.Clone(one.Proof)
				for at := range other.Proof {
					if random.Intn(2) == 0 {
						other.Proof[at] = api.Digest{byte(random.Intn(8))}
					}
				}
				if path.Verify(master, []api.Step{other}) != api.OK {
					wantWeakVerify(t, other, api.ErrCheckRoot)
					refused++
					continue
				}
				a, _ := entry.Leaf(one.Item)
				b, _ := entry.Leaf(other.Item)
				wantClash(t, one, other, a != b)
				if a != b {
					clashes++
				} else {
					likeLeaves++
				}
			}
		}
	}
	if clashes < 100 || likeLeaves < 100 || refused < 100 {
		t.Errorf("of what was tried %d clash, %d have one leaf, and %d are refused: too few", clashes, likeLeaves, refused)
	}
}

func wantWeakVerify(t *testing.T, s api.Step, want api.Errno) {
	t.Helper()
	if e := path.Verify(master, []api.Step{s}); e != want {
		t.Errorf("P14.2: with weak sums Verify of %s is %d; want %d", brief(s), e, want)
	}
}
