package entry_test

import (
	"strings"
	"testing"

	"estreat/api"
	"estreat/entry"
)

// Digests as their bytes, for what is written out byte by byte.
const (
	zeros   = "\x00\x00\x00\x00\x00\x00\x00\x00\x00\x00\x00\x00\x00\x00\x00\x00\x00\x00\x00\x00\x00\x00\x00\x00\x00\x00\x00\x00\x00\x00\x00\x00"
	ones    = "\xff\xff\xff\xff\xff\xff\xff\xff\xff\xff\xff\xff\xff\xff\xff\xff\xff\xff\xff\xff\xff\xff\xff\xff\xff\xff\xff\xff\xff\xff\xff\xff"
	rise40  = "\x28\x29\x2a\x2b\x2c\x2d\x2e\x2f\x30\x31\x32\x33\x34\x35\x36\x37\x38\x39\x3a\x3b\x3c\x3d\x3e\x3f\x40\x41\x42\x43\x44\x45\x46\x47"
	rise80  = "\x50\x51\x52\x53\x54\x55\x56\x57\x58\x59\x5a\x5b\x5c\x5d\x5e\x5f\x60\x61\x62\x63\x64\x65\x66\x67\x68\x69\x6a\x6b\x6c\x6d\x6e\x6f"
	rise120 = "\x78\x79\x7a\x7b\x7c\x7d\x7e\x7f\x80\x81\x82\x83\x84\x85\x86\x87\x88\x89\x8a\x8b\x8c\x8d\x8e\x8f\x90\x91\x92\x93\x94\x95\x96\x97"
)

func wantCheckClaim(t *testing.T, c api.Claim) {
	t.Helper()
	want := api.ErrEntryForm
	if claimIsRight(c) {
		want = api.OK
	}
	if e := entry.CheckClaim(c); e != want {
		t.Errorf("P8.1: CheckClaim(%+v) is %d; want %d", c, e, want)
	}
}

func TestCheckClaimOfRightAndWrongClaims(t *testing.T) {
	for _, c := range rightClaims() {
		if !claimIsRight(c) {
			t.Fatalf("%+v is meant to be right", c)
		}
		wantCheckClaim(t, c)
	}
	for _, c := range wrongClaims() {
		if claimIsRight(c) {
			t.Fatalf("%+v is meant to be wrong", c)
		}
		wantCheckClaim(t, c)
	}
}

func TestCheckClaimAtTheEdges(t *testing.T) {
	for _, x := range []struct {
		region, epoch, node, size int
		want                      api.Errno
	}{
		{1, 1, 1, 0, api.OK}, {5, 900000000, 3, 100000, api.OK},
		{0, 1, 1, 0, api.ErrEntryForm}, {5, 1, 1, 0, api.OK}, {6, 1, 1, 0, api.ErrEntryForm}, {-1, 1, 1, 0, api.ErrEntryForm},
		{1, 0, 1, 0, api.ErrEntryForm}, {1, 900000000, 1, 0, api.OK}, {1, 900000001, 1, 0, api.ErrEntryForm}, {1, -1, 1, 0, api.ErrEntryForm},
		{1, 1, 0, 0, api.ErrEntryForm}, {1, 1, 3, 0, api.OK}, {1, 1, 4, 0, api.ErrEntryForm}, {1, 1, -1, 0, api.ErrEntryForm},
		{1, 1, 1, -1, api.ErrEntryForm}, {1, 1, 1, 100000, api.OK}, {1, 1, 1, 100001, api.ErrEntryForm},
		{0, 0, 0, 0, api.ErrEntryForm}, {-1, -1, -1, -1, api.ErrEntryForm},
		// What one field may be, another one may not.
		{4, 1, 4, 0, api.ErrEntryForm}, {4, 1, 3, 0, api.OK}, {1, 100001, 1, 2000, api.OK}, {1, 1, 1, 900000000, api.ErrEntryForm},
		{api.MaxRegions, api.MaxEpoch, api.Nodes, api.MaxSize, api.OK},
		{api.MaxRegions + 1, api.MaxEpoch, api.Nodes, api.MaxSize, api.ErrEntryForm},
		{api.MaxRegions, api.MaxEpoch + 1, api.Nodes, api.MaxSize, api.ErrEntryForm},
		{api.MaxRegions, api.MaxEpoch, api.Nodes + 1, api.MaxSize, api.ErrEntryForm},
		{api.MaxRegions, api.MaxEpoch, api.Nodes, api.MaxSize + 1, api.ErrEntryForm},
	} {
		c := api.Claim{Region: x.region, Epoch: x.epoch, Node: x.node, Size: x.size}
		if e := entry.CheckClaim(c); e != x.want {
			t.Errorf("P8.1: CheckClaim(%+v) is %d; want %d", c, e, x.want)
		}
	}
}

// A root may be any digest, whatever the size.
func TestCheckClaimTakesAnyRoot(t *testing.T) {
	for _, d := range roots() {
		for _, n := range sizes {
			if e := entry.CheckClaim(api.Claim{Region: 3, Epoch: 1, Node: 2, Size: n, Root: d}); e != api.OK {
				t.Errorf("P8.1: CheckClaim of size %d, root %x is %d", n, d, e)
			}
		}
	}
}

func TestPutClaimByteByByte(t *testing.T) {
	for _, x := range []struct {
		claim api.Claim
		want  string
	}{
		{leastClaim(), "\x01\x00\x00\x01\x01" + "\x02\x00\x00\x01\x01" + "\x03\x00\x00\x01\x01" + "\x04\x00\x00\x00" + "\x05\x00\x00\x20" + zeros},
		{greatestClaim(), "\x01\x00\x00\x01\x05" + "\x02\x00\x00\x04\x35\xa4\xe9\x00" + "\x03\x00\x00\x01\x03" + "\x04\x00\x00\x03\x01\x86\xa0" + "\x05\x00\x00\x20" + ones},
		{plainClaim(), "\x01\x00\x00\x01\x04" + "\x02\x00\x00\x02\x01\x02" + "\x03\x00\x00\x01\x02" + "\x04\x00\x00\x03\x01\x11\x73" + "\x05\x00\x00\x20" + rise40},
	} {
		if b, e := entry.PutClaim(x.claim); string(b) != x.want || e != api.OK {
			t.Errorf("P8.1: PutClaim(%+v) is % x, %d; want % x", x.claim, b, e, x.want)
		}
		if c, e := entry.GetClaim([]byte(x.want)); c != x.claim || e != api.OK {
			t.Errorf("P8.1: GetClaim(% x) is %+v, %d; want %+v", x.want, c, e, x.claim)
		}
	}
}

func TestAllEdgesOfClaimsTogetherAreLaidAndRead(t *testing.T) {
	for region := 1; region <= 5; region++ {
		for node := 1; node <= 3; node++ {
			for _, epoch := range epochs {
				for i, size := range sizes {
					c := api.Claim{Region: region, Epoch: epoch, Node: node, Size: size, Root: roots()[i%len(roots())]}
					b, e := entry.PutClaim(c)
					if back, f := entry.GetClaim(b); back != c || string(b) != join(claimParts(c)) || e != api.OK || f != api.OK {
						t.Fatalf("P8.4: %+v is laid as % x, %d, and read as %+v, %d", c, b, e, back, f)
					}
				}
			}
		}
	}
}

// The tags rise in these, and each field has what a claim's of its place has.
func TestGetClaimRefusesRowsOfOtherTags(t *testing.T) {
	k := claimThing()
	for _, tags := range [][]int{{2, 3, 4, 5, 6}, {1, 2, 3, 4, 6}, {1, 2, 3, 5, 6}, {1, 2, 4, 5, 6}, {1, 3, 4, 5, 6}, {1, 2, 3, 4, 255}, {11, 12, 13, 14, 15}, {0, 1, 2, 3, 4}} {
		var s string
		for i, part := range claimParts(plainClaim()) {
			s += field(tags[i], dataOf(part))
		}
		k.refuses(t, "of other tags", s)
	}
}

// otherNumbers are data that no field of a small number has: not the fewest bytes, or a number that is too great, though its lowest bytes are right.
func otherNumbers(n int) map[string]string {
	l := map[string]string{
		"a higher byte":                 "\x01\x00\x00\x00\x00" + number(n),
		"eight bytes 255":               "\xff\xff\xff\xff\xff\xff\xff\xff",
		"nine bytes":                    "\x01\x00\x00\x00\x00\x00\x00\x00\x01",
		"2 to the 62":                   "\x40\x00\x00\x00\x00\x00\x00\x00",
		"2 to the 62 and what is right": "\x40\x00\x00\x00\x00\x00\x00\x01",
		"2 to the 63 and what is right": "\x80\x00\x00\x00\x00\x00\x00\x01",
		"2 to the 64 and what is right": "\x01\x00\x00\x00\x00\x00\x00\x00\x01",
		"a great number":                "\x3f\xff\xff\xff\xff\xff\xff\xff",
		"digits":                        "123456",
		"a root":                        rise40,
		"65536 bytes":                   strings.Repeat("\x01", 65536),
		"65537 bytes":                   strings.Repeat("\x01", 65537),
		"many bytes 0 ahead":            strings.Repeat("\x00", 65530) + number(n),
	}
	for count := 1; count <= 9; count++ {
		l["bytes 0 ahead: "+strings.Repeat("0", count)] = strings.Repeat("\x00", count) + number(n)
	}
	return l
}

func TestGetClaimRefusesNumbersOfOtherBytes(t *testing.T) {
	k := claimThing()
	for _, c := range k.right {
		l := claimParts(c)
		for i, n := range []int{c.Region, c.Epoch, c.Node, c.Size} {
			for why, data := range otherNumbers(n) {
				k.refuses(t, why, with(l, i, field(i+1, data)))
			}
		}
	}
}

// No byte is the number 0: right for Size alone.
func TestGetClaimOfNumbersOfNoByte(t *testing.T) {
	l := claimParts(plainClaim())
	for i := range 3 {
		claimThing().refuses(t, "no number", with(l, i, field(i+1, "")))
	}
	c := plainClaim()
	c.Size = 0
	if got, e := entry.GetClaim([]byte(with(l, 3, field(4, "")))); got != c || e != api.OK {
		t.Errorf("P8.1: GetClaim of no byte as Size is %+v, %d", got, e)
	}
}

func TestGetClaimRefusesRootsOfOtherLengths(t *testing.T) {
	k := claimThing()
	for _, c := range k.right {
		l, root := claimParts(c), string(c.Root[:])
		for n := range 32 {
			k.refuses(t, "a root's beginning", with(l, 4, field(5, root[:n])))
			k.refuses(t, "a root's end", with(l, 4, field(5, root[n+1:])))
		}
		for _, more := range []string{"\x00", "\xff", root, strings.Repeat("\x00", 65536-32)} {
			k.refuses(t, "a root and more", with(l, 4, field(5, root+more)))
			k.refuses(t, "more and a root", with(l, 4, field(5, more+root)))
		}
	}
}

// All of these are well formed rows of a claim's five tags, of numbers and a root of 32 bytes.
func TestGetClaimRefusesClaimsThatAreNotRight(t *testing.T) {
	k := claimThing()
	for _, c := range k.wrong {
		if c.Region < 0 || c.Epoch < 0 || c.Node < 0 || c.Size < 0 {
			continue // It has no bytes.
		}
		k.refuses(t, "a wrong claim", join(claimParts(c)))
	}
}

func FuzzGetClaim(f *testing.F) {
	for _, c := range rightClaims() {
		f.Add([]byte(join(claimParts(c))))
	}
	f.Add([]byte{})
	f.Add([]byte(join(claimParts(api.Claim{}))))
	k := claimThing()
	f.Fuzz(func(t *testing.T, b []byte) {
		k.wantGet(t, "made up", string(b))
	})
}

func FuzzPutClaim(f *testing.F) {
	f.Add(1, 1, 1, 0, "")
	f.Add(5, 900000000, 3, 100000, "root")
	f.Add(0, 900000001, 4, -1, "")
	k := claimThing()
	f.Fuzz(func(t *testing.T, region, epoch, node, size int, root string) {
		c := api.Claim{Region: region, Epoch: epoch, Node: node, Size: size}
		copy(c.Root[:], root)
		wantCheckClaim(t, c)
		if claimIsRight(c) {
			k.wantPut(t, c, join(claimParts(c)))
		} else if b, e := entry.PutClaim(c); len(b) != 0 || e != api.ErrEntryForm {
			t.Errorf("P8.1: PutClaim(%+v) is % x, %d", c, b, e)
		}
	})
}
