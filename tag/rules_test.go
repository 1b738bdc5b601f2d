package tag_test

import (
	"slices"
	"strings"
	"sync"
	"testing"

	"estreat/api"
	"estreat/tag"
)

func TestCallsEndAtAllArguments(t *testing.T) {
	regions := slices.Concat(noRegions, []int{1, 2, 3, 4, 5})
	nodes := slices.Concat(noNodes, []int{1, 2, 3})
	for _, region := range regions {
		for _, node := range nodes {
			k, e := tag.Key(rising(0), region, node)
			if e != api.OK && e != api.ErrTagKey || (e != api.OK) != (k == api.Key{}) {
				t.Errorf("R1: Key(.., %d, %d) is %x, %d", region, node, k, e)
			}
			for _, d := range []api.Digest{{}, api.Digest(filled(255))} {
				held := tag.Holds(rising(0), region, node, "data", d)
				if e == api.ErrTagKey && held != e || e == api.OK && held != api.ErrHeadTag {
					t.Errorf("R1: Holds(.., %d, %d, ..) is %d, where Key answers %d", region, node, held, e)
				}
			}
		}
	}
}

func TestMacEndsWithManyBytes(t *testing.T) {
	wantMac(t, rising(0), strings.Repeat("many bytes", 300000))
}

func TestArgumentsStay(t *testing.T) {
	for _, master := range keys() {
		for _, d := range some() {
			text := []byte(strings.Repeat("data and what lies behind it", 5))
			whole := string(text)
			key, digest, other := master, d, d
			for _, n := range []int{0, 1, 55, 56, 63, 64, 65, len(whole)} {
				tag.Mac(key, whole[:n])
				tag.Same(digest, other)
				tag.Key(key, 1, 3)
				tag.Key(key, 0, 4)
				tag.Holds(key, 5, 3, whole[:n], digest)
				tag.Holds(key, 6, 3, whole[:n], digest)
			}
			if key != master || digest != d || other != d || whole != string(text) {
				t.Errorf("R2: what was handed in is changed: %x, %x, %x, %q", key, digest, other, whole)
			}
		}
	}
}

// Digests and keys that came out are the caller's: writing to them changes nothing that comes later.
func TestAnswersAreNew(t *testing.T) {
	master := rising(2)
	for range 3 {
		d, again := tag.Mac(master, "data"), tag.Mac(master, "data")
		k, e := tag.Key(master, 2, 2)
		if d != macOf(master, "data") || d != again || k != keyOf(master, 2, 2) || e != api.OK {
			t.Errorf("R2: Mac is %x and %x, Key is %x, %d", d, again, k, e)
		}
		for i := range d {
			d[i], k[i] = 0, 0
		}
		if again != macOf(master, "data") {
			t.Error("R2: two digests that came out share their bytes")
		}
	}
}

// What a call answers hangs on its arguments, not on the calls ahead of it.
func TestCallsAnswerTheSameAgain(t *testing.T) {
	between := func() {
		tag.Mac(filled(255), unlike(100))
		tag.Key(filled(255), 0, 9)
		tag.Holds(filled(255), 5, 3, "", api.Digest{})
		tag.Same(api.Digest{}, api.Digest(filled(255)))
	}
	for _, master := range keys() {
		eachNode(func(region, node int) {
			for range 2 {
				k, e := tag.Key(master, region, node)
				if k != keyOf(master, region, node) || e != api.OK {
					t.Errorf("R2: Key(%x, %d, %d) is %x, %d", master, region, node, k, e)
				}
				between()
				good := tagOf(master, region, node, "data")
				wantHolds(t, "again", master, region, node, "data", good, api.OK)
				between()
				wantHolds(t, "again", master, region, node, "data", api.Digest(master), api.ErrHeadTag)
				wantHolds(t, "again", master, region+5, node, "data", good, api.ErrTagKey)
			}
		})
	}
}

func TestCallsBesideOneAnother(t *testing.T) {
	var all sync.WaitGroup
	for worker := range 8 {
		all.Go(func() {
			master := rising(worker)
			for n := range 100 {
				wantMac(t, master, unlike(n))
				region, node := 1+n%5, 1+n%3
				wantHolds(t, "beside others", master, region, node, unlike(n), tagOf(master, region, node, unlike(n)), api.OK)
			}
		})
	}
	all.Wait()
}
