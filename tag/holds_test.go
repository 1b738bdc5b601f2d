package tag_test

import (
	"strings"
	"testing"

	"estreat/api"
	"estreat/tag"
)

func wantHolds(t *testing.T, why string, master api.Key, region, node int, data string, d api.Digest, want api.Errno) {
	t.Helper()
	if e := tag.Holds(master, region, node, data, d); e != want {
		t.Errorf("P6.2: %s: Holds(%x, %d, %d, %d bytes %.40q, %x) is %d; want %d", why, master, region, node, len(data), data, d, e, want)
	}
}

// tagOf is what the node makes, worked out by the library.
func tagOf(master api.Key, region, node int, data string) api.Digest {
	return macOf(keyOf(master, region, node), data)
}

func TestHoldsOfANodesOwn(t *testing.T) {
	for _, master := range keys() {
		eachNode(func(region, node int) {
			for _, n := range lengths[:len(lengths)-2] {
				wantHolds(t, "its own", master, region, node, unlike(n), tagOf(master, region, node, unlike(n)), api.OK)
			}
		})
	}
	for _, n := range lengths {
		wantHolds(t, "its own", rising(0), 5, 3, unlike(n), tagOf(rising(0), 5, 3, unlike(n)), api.OK)
	}
}

// What Key and Mac make is what Holds finds.
func TestHoldsOfWhatMacMakes(t *testing.T) {
	for _, master := range keys() {
		eachNode(func(region, node int) {
			key, _ := tag.Key(master, region, node)
			for _, data := range []string{"", "a", "\x00", "\xff", unlike(64), string(master[:])} {
				if e := tag.Holds(master, region, node, data, tag.Mac(key, data)); e != api.OK {
					t.Errorf("P6.3: the tag of %q by the key of %d %d does not hold for it: %d", data, region, node, e)
				}
			}
		})
	}
}

func TestHoldsOfAnotherNodesTag(t *testing.T) {
	master := rising(0)
	eachNode(func(region, node int) {
		d := tagOf(master, region, node, "data")
		eachNode(func(r, n int) {
			want := api.ErrHeadTag
			if r == region && n == node {
				want = api.OK
			}
			wantHolds(t, "a node's, by another", master, r, n, "data", d, want)
		})
	})
}

func TestHoldsOfAnotherMastersTag(t *testing.T) {
	all := keys()
	for i, one := range all {
		for j, other := range all {
			want := api.ErrHeadTag
			if i == j {
				want = api.OK
			}
			wantHolds(t, "a master's, by another", other, 2, 3, "data", tagOf(one, 2, 3, "data"), want)
		}
	}
}

func TestHoldsOfATagThatIsTurned(t *testing.T) {
	master := rising(5)
	for _, data := range []string{"", "data", unlike(200)} {
		eachNode(func(region, node int) {
			good := tagOf(master, region, node, data)
			for i := range 32 * 8 {
				d := good
				d[i/8] ^= 1 << (i % 8)
				wantHolds(t, "a bit turned", master, region, node, data, d, api.ErrHeadTag)
			}
			for at := range good {
				d := good
				d[at] ^= 255
				wantHolds(t, "a byte turned", master, region, node, data, d, api.ErrHeadTag)
				d = good
				d[at] ^= 1
				d[(at+1)%32] ^= 1
				wantHolds(t, "two bytes turned", master, region, node, data, d, api.ErrHeadTag)
				d = good
				d[at]++
				d[(at+7)%32]--
				wantHolds(t, "two bytes moved", master, region, node, data, d, api.ErrHeadTag)
			}
		})
	}
}

// P6.3: of all tags that are tried, the one that holds is the one that was made.
func TestHoldsOfOneTagAlone(t *testing.T) {
	master := rising(8)
	good := tagOf(master, 4, 2, "data")
	for at := range good {
		for c := range 256 {
			d := good
			d[at] = byte(c)
			want := api.ErrHeadTag
			if tag.Same(d, good) {
				want = api.OK
			}
			if e := tag.Holds(master, 4, 2, "data", d); e != want || (e == api.OK) != (d == good) {
				t.Errorf("P6.3: %x, beside %x, is %d; want %d", d, good, e, want)
			}
		}
	}
}

func TestHoldsOfOtherDigests(t *testing.T) {
	master := rising(5)
	key := keyOf(master, 1, 2)
	for why, d := range map[string]api.Digest{
		"no tag":                       {},
		"all bytes 255":                api.Digest(filled(255)),
		"the node's key":               api.Digest(key),
		"the master":                   api.Digest(master),
		"the master's tag":             macOf(master, "data"),
		"the tag of its tag":           macOf(key, string(func() []byte { d := macOf(key, "data"); return d[:] }())),
		"the tag of no data":           macOf(key, ""),
		"the tag of a byte less":       macOf(key, "dat"),
		"the tag of a byte more":       macOf(key, "data\x00"),
		"the tag of a letter's case":   macOf(key, "Data"),
		"a key of the name as text":    macOf(api.Key(macOf(master, "K12")), "data"),
		"a key of the node ahead":      macOf(api.Key(macOf(master, "K\x02\x01")), "data"),
		"a key without the mark":       macOf(api.Key(macOf(master, "\x01\x02")), "data"),
		"a key of longer numbers":      macOf(api.Key(macOf(master, "K\x00\x01\x00\x02")), "data"),
		"a key whose mark is a letter": macOf(api.Key(macOf(master, "k\x01\x02")), "data"),
	} {
		wantHolds(t, why, master, 1, 2, "data", d, api.ErrHeadTag)
	}
}

func TestHoldsOfOtherData(t *testing.T) {
	master := rising(5)
	data := unlike(130)
	good := tagOf(master, 3, 1, data)
	for i := range len(data) * 8 {
		b := []byte(data)
		b[i/8] ^= 1 << (i % 8)
		wantHolds(t, "a bit of the data turned", master, 3, 1, string(b), good, api.ErrHeadTag)
	}
	for n := range len(data) {
		wantHolds(t, "less data", master, 3, 1, data[:n], good, api.ErrHeadTag)
	}
	wantHolds(t, "more data", master, 3, 1, data+"\x00", good, api.ErrHeadTag)
	wantHolds(t, "data twice", master, 3, 1, data+data, good, api.ErrHeadTag)
	wantHolds(t, "many bytes", master, 3, 1, strings.Repeat(data, 1000), good, api.ErrHeadTag)
}

// Who is no node is told ahead of a tag that is wrong, and no tag makes it one.
func TestHoldsRefusesWhoIsNoNode(t *testing.T) {
	for _, master := range []api.Key{{}, filled(255), rising(0)} {
		eachWrong(func(region, node int) {
			wantHolds(t, "no node, no tag", master, region, node, "data", api.Digest{}, api.ErrTagKey)
			wantHolds(t, "no node, a tag by its lowest bytes", master, region, node, "data", tagOf(master, region, node, "data"), api.ErrTagKey)
			wantHolds(t, "no node, a tag by a key of bytes 0", master, region, node, "data", macOf(api.Key{}, "data"), api.ErrTagKey)
			wantHolds(t, "no node, a tag by the master", master, region, node, "", macOf(master, ""), api.ErrTagKey)
		})
	}
}

func FuzzHolds(f *testing.F) {
	f.Add(1, 1, "", "")
	f.Add(5, 3, "data", "\x01")
	f.Add(0, 1, "data", "")
	f.Add(257, 1<<32+1, "data", "")
	f.Fuzz(func(t *testing.T, region, node int, data, turn string) {
		master := rising(1)
		good := tagOf(master, region, node, data)
		d := good
		for i := range min(len(turn), len(d)) {
			d[i] ^= turn[i]
		}
		want := api.OK
		switch {
		case region < 1 || region > 5 || node < 1 || node > 3:
			want = api.ErrTagKey
		case d != good:
			want = api.ErrHeadTag
		}
		wantHolds(t, "made up", master, region, node, data, d, want)
	})
}
