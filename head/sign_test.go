package head_test

import (
	"strings"
	"testing"

	"estreat/api"
	"estreat/head"
)

func wantVerify(t *testing.T, why string, master api.Key, s api.Signed, want api.Errno) {
	t.Helper()
	if e := head.Verify(master, s); e != want {
		t.Errorf("P7.2: %s: Verify(%x, %+v) is %d; want %d", why, master, s, e, want)
	}
}

// wantTurned holds Verify against the library: what was turned may be signed only if its tag is what the node makes of it.
func wantTurned(t *testing.T, why string, master api.Key, s api.Signed) {
	t.Helper()
	want := api.ErrHeadForm
	if canBe(s) {
		want = api.ErrHeadTag
		if s.Tag == tagOf(master, s.Head, s.Node) {
			want = api.OK
		}
	}
	wantVerify(t, why, master, s, want)
}

func TestSignByEachNode(t *testing.T) {
	for _, master := range masters() {
		for _, h := range rightHeads() {
			for node := 1; node <= 3; node++ {
				want := signedOf(master, h, node)
				if s, e := head.Sign(master, h, node); s != want || e != api.OK {
					t.Errorf("P7.2: Sign(%x, %+v, %d) is %+v, %d; want %+v", master, h, node, s, e, want)
				}
			}
		}
	}
}

func TestSignOfEachRegion(t *testing.T) {
	seen := map[api.Digest]int{}
	for _, master := range masters() {
		for region := 1; region <= 5; region++ {
			for node := 1; node <= 3; node++ {
				h := api.Head{Region: region, Epoch: 1}
				s, e := head.Sign(master, h, node)
				if s != signedOf(master, h, node) || e != api.OK {
					t.Errorf("P7.2: Sign(%x, %+v, %d) is %+v, %d", master, h, node, s, e)
				}
				if seen[s.Tag]++; seen[s.Tag] > 1 {
					t.Errorf("P7.2: Sign(%x, %+v, %d) has another one's tag %x", master, h, node, s.Tag)
				}
			}
		}
	}
}

func TestSignRefusesWhatIsNotRight(t *testing.T) {
	master := api.Key(rising(0))
	for _, x := range impossible(master) {
		if s, e := head.Sign(master, x.Head, x.Node); s != (api.Signed{}) || e != api.ErrHeadForm {
			t.Errorf("P7.2: Sign(.., %+v, %d) is %+v, %d; want zero, ErrHeadForm", x.Head, x.Node, s, e)
		}
	}
}

func TestSignAtTheEdgesOfNodes(t *testing.T) {
	for node, want := range map[int]api.Errno{-1: api.ErrHeadForm, 0: api.ErrHeadForm, 1: api.OK, 2: api.OK, 3: api.OK, 4: api.ErrHeadForm, 5: api.ErrHeadForm, 257: api.ErrHeadForm} {
		for _, h := range []api.Head{least(), greatest(), plain()} {
			s, e := head.Sign(api.Key{}, h, node)
			if e != want || (e == api.OK) != (s == signedOf(api.Key{}, h, node)) {
				t.Errorf("P7.2: Sign(0, %+v, %d) is %+v, %d; want %d", h, node, s, e, want)
			}
			wantVerify(t, "an edge", api.Key{}, signedOf(api.Key{}, h, node), want)
		}
	}
}

func TestVerifyOfTheChapter(t *testing.T) {
	s, e := head.Sign(api.Key{}, api.Head{Region: 1, Epoch: 1}, 1)
	if e != api.OK {
		t.Fatalf("P7.2: Sign: %d", e)
	}
	wantVerify(t, "the chapter's", api.Key{}, s, api.OK)
	s.Node = 2
	wantVerify(t, "the chapter's, with Node 2", api.Key{}, s, api.ErrHeadTag)
}

// What Sign makes is verified by its own master, and by no other one.
func TestVerifyByEachMaster(t *testing.T) {
	for i, master := range masters() {
		for j, other := range masters() {
			want := api.ErrHeadTag
			if i == j {
				want = api.OK
			}
			for _, h := range rightHeads() {
				node := 1 + (i+j)%3
				s, _ := head.Sign(master, h, node)
				wantVerify(t, "what was signed", other, s, want)
				wantVerify(t, "as the library signs", other, signedOf(master, h, node), want)
			}
		}
	}
}

func TestVerifyOfAnotherNode(t *testing.T) {
	master := api.Key(rising(3))
	for _, h := range rightHeads() {
		for node := 1; node <= 3; node++ {
			s, _ := head.Sign(master, h, node)
			for s.Node = 1; s.Node <= 3; s.Node++ {
				want := api.ErrHeadTag
				if s.Node == node {
					want = api.OK
				}
				wantVerify(t, "another node", master, s, want)
			}
			for _, s.Node = range noNodes {
				wantVerify(t, "no node", master, s, api.ErrHeadForm)
			}
		}
	}
}

// Each head's tag, beside each other head: they are unlike in one field alone, or in more.
func TestVerifyOfAnotherHead(t *testing.T) {
	master := api.Key(rising(3))
	all := rightHeads()
	for i, h := range all {
		node := 1 + i%3
		s, _ := head.Sign(master, h, node)
		for _, other := range all {
			s.Head = other
			want := api.ErrHeadTag
			if other == h {
				want = api.OK
			}
			wantVerify(t, "another head", master, s, want)
		}
	}
}

func TestVerifyOfAHeadTurnedInEachField(t *testing.T) {
	master := api.Key(rising(3))
	for _, h := range []api.Head{least(), greatest(), plain()} {
		for node := 1; node <= 3; node++ {
			good, _ := head.Sign(master, h, node)
			for bit := range 64 {
				s := good
				s.Head.Region ^= 1 << bit
				wantTurned(t, "a region's bit", master, s)
				s = good
				s.Head.Epoch ^= 1 << bit
				wantTurned(t, "an epoch's bit", master, s)
				s = good
				s.Head.Size ^= 1 << bit
				wantTurned(t, "a size's bit", master, s)
				s = good
				s.Head.Tick ^= 1 << bit
				wantTurned(t, "a tick's bit", master, s)
				s = good
				s.Node ^= 1 << bit
				wantTurned(t, "a node's bit", master, s)
			}
			for _, by := range []int{-1, 1} {
				s := good
				s.Head.Region += by
				wantTurned(t, "a region beside", master, s)
				s = good
				s.Head.Epoch += by
				wantTurned(t, "an epoch beside", master, s)
				s = good
				s.Head.Size += by
				wantTurned(t, "a size beside", master, s)
				s = good
				s.Head.Tick += by
				wantTurned(t, "a tick beside", master, s)
			}
			for bit := range 32 * 8 {
				s := good
				s.Head.Root[bit/8] ^= 1 << (bit % 8)
				wantVerify(t, "a root's bit", master, s, api.ErrHeadTag)
			}
		}
	}
}

// Numbers that change places must not be taken for one another.
func TestVerifyOfFieldsThatChangePlaces(t *testing.T) {
	master := api.Key(rising(3))
	h := api.Head{Region: 1, Epoch: 2, Size: 3, Tick: 4}
	good, _ := head.Sign(master, h, 3)
	for _, x := range []api.Head{
		{Region: 2, Epoch: 1, Size: 3, Tick: 4}, {Region: 1, Epoch: 3, Size: 2, Tick: 4}, {Region: 1, Epoch: 2, Size: 4, Tick: 3}, {Region: 3, Epoch: 2, Size: 1, Tick: 4},
	} {
		wantVerify(t, "in other places", master, api.Signed{Head: x, Node: 3, Tag: good.Tag}, api.ErrHeadTag)
	}
	wantVerify(t, "region for node", master, api.Signed{Head: api.Head{Region: 3, Epoch: 2, Size: 3, Tick: 4}, Node: 1, Tag: good.Tag}, api.ErrHeadTag)
}

func TestVerifyOfATagTurnedInEachByte(t *testing.T) {
	master := api.Key(rising(3))
	for _, h := range []api.Head{least(), greatest(), plain()} {
		for node := 1; node <= 3; node++ {
			good, _ := head.Sign(master, h, node)
			for at := range good.Tag {
				for c := range 256 {
					s := good
					s.Tag[at] = byte(c)
					want := api.ErrHeadTag
					if s == good {
						want = api.OK
					}
					wantVerify(t, "a tag's byte", master, s, want)
				}
				s := good
				s.Tag[at] ^= 9
				s.Tag[(at+5)%32] ^= 9
				wantVerify(t, "two of a tag's bytes", master, s, api.ErrHeadTag)
			}
		}
	}
}

func TestVerifyOfTagsOfOtherThings(t *testing.T) {
	master := api.Key(rising(3))
	h := plain()
	key := macOf(master, "K\x02\x01")
	text := join(parts(h))
	for why, d := range map[string]api.Digest{
		"no tag":                      {},
		"all bytes 255":               filled(255),
		"the node's key":              key,
		"the master":                  api.Digest(master),
		"the root":                    h.Root,
		"without the mark":            macOf(key, text),
		"the mark without its space":  macOf(key, "head"+text),
		"the mark alone":              macOf(key, "head "),
		"another mark":                macOf(key, "Head "+text),
		"a mark with a byte 0":        macOf(key, "head\x00"+text),
		"the mark behind":             macOf(key, text+"head "),
		"the mark twice":              macOf(key, "head head "+text),
		"by the master":               macOf(master, "head "+text),
		"without the last byte":       macOf(key, "head "+text[:len(text)-1]),
		"with a byte behind":          macOf(key, "head "+text+"\x00"),
		"of a head in a row":          macOf(key, "head "+field(1, text)),
		"of the root alone":           macOf(key, "head "+string(h.Root[:])),
		"with the node's number":      macOf(key, "head "+text+"\x01"),
		"of the signed head's bytes":  macOf(key, "head "+text+field(2, "\x01")),
		"in digits":                   macOf(key, "head 2 258 70003 16909060"),
		"the key's and node's places": macOf(macOf(master, "K\x01\x02"), "head "+text),
	} {
		wantVerify(t, why, master, api.Signed{Head: h, Node: 1, Tag: d}, api.ErrHeadTag)
	}
	wantVerify(t, "the right one", master, api.Signed{Head: h, Node: 1, Tag: macOf(key, "head "+text)}, api.OK)
}

// What may not be is told ahead of a tag that is wrong, and no tag makes it right.
func TestVerifyRefusesWhatMayNotBe(t *testing.T) {
	for _, master := range masters() {
		for _, s := range impossible(master) {
			wantVerify(t, "may not be", master, s, api.ErrHeadForm)
		}
	}
}

// P7.4: what is signed goes on being so as bytes.
func TestSignedHeadsAreVerifiedBehindTheirBytes(t *testing.T) {
	for i, master := range masters() {
		for _, h := range rightHeads() {
			s, _ := head.Sign(master, h, 1+i%3)
			b, e := head.PutSigned(s)
			back, f := head.GetSigned(b)
			if back != s || e != api.OK || f != api.OK || head.Verify(master, back) != api.OK {
				t.Errorf("P7.4: %+v is read again as %+v, %d, %d, and is not verified", s, back, e, f)
			}
		}
	}
}

func FuzzSign(f *testing.F) {
	f.Add("master", 1, 1, 0, 0, "", 1, "")
	f.Add("", 5, 900000000, 100000, 900000000, "root", 3, "\x01")
	f.Add("", 6, 1, 0, 0, "root", 3, "")
	f.Add("", 257, 1, 1<<32, 0, "root", 259, "")
	f.Fuzz(func(t *testing.T, name string, region, epoch, size, tick int, root string, node int, turn string) {
		var master api.Key
		copy(master[:], name)
		h := api.Head{Region: region, Epoch: epoch, Size: size, Tick: tick}
		copy(h.Root[:], root)
		var want api.Signed
		code := api.ErrHeadForm
		if canBe(api.Signed{Head: h, Node: node}) {
			want, code = signedOf(master, h, node), api.OK
		}
		s, e := head.Sign(master, h, node)
		if s != want || e != code {
			t.Errorf("P7.2: Sign(%x, %+v, %d) is %+v, %d; want %+v, %d", master, h, node, s, e, want, code)
		}
		s = signedOf(master, h, node)
		for i, c := range []byte(strings.TrimRight(turn, "\x00")) {
			s.Tag[i%32] ^= c
		}
		wantTurned(t, "made up", master, s)
	})
}
