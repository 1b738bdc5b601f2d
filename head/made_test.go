package head_test

import (
	"crypto/hmac"
	"crypto/sha256"
	"math"
	"math/big"
	"slices"

	"estreat/api"
)

// What right heads have: the edges, and numbers of no byte, of one and of several.
var (
	epochs = []int{1, 2, 127, 128, 255, 256, 257, 65535, 65536, 1<<24 - 1, 1 << 24, 899999999, 900000000}
	sizes  = []int{0, 1, 2, 127, 128, 255, 256, 257, 65535, 65536, 99999, 100000}
	ticks  = []int{0, 1, 2, 127, 128, 255, 256, 257, 65535, 65536, 1<<24 - 1, 1 << 24, 899999999, 900000000}
)

// farOff are numbers that no field may have; the lowest bytes of many would be right.
var farOff = []int{
	-1, -2, -3, -5, -255, -256 + 1, -65536 + 2, -1<<31 + 1, -1<<32 + 1, -1<<40 + 3, -1<<62 + 1, math.MinInt, math.MinInt + 1, math.MinInt + 3,
	900000001, 1<<30 + 1, 1<<31 - 1, 1 << 31, 1<<32 + 1, 1<<32 + 3, 1<<40 + 1, 1<<56 + 1, 1<<62 - 1, 1 << 62, 1<<62 + 1, math.MaxInt - 1, math.MaxInt,
}

var (
	noRegions = slices.Concat(farOff, []int{0, 6, 7, 10, 100, 255, 256, 257, 258, 261, 512 + 1, 65536 + 5})
	noEpochs  = slices.Concat(farOff, []int{0, 900000002, 1000000000})
	noSizes   = slices.Concat(farOff, []int{100001, 100002, 131072, 131072 + 1, 1000000, 1 << 24})
	noTicks   = slices.Concat(farOff, []int{900000002, 1000000000})
	noNodes   = slices.Concat(farOff, []int{0, 4, 5, 6, 10, 100, 255, 256, 257, 258, 259, 512 + 1, 65536 + 3})
)

// filled has c in every byte.
func filled(c byte) [32]byte {
	var d [32]byte
	for i := range d {
		d[i] = c
	}
	return d
}

// rising has the bytes from c on, so that no two places are alike.
func rising(c int) [32]byte {
	var d [32]byte
	for i := range d {
		d[i] = byte(c + i)
	}
	return d
}

func roots() []api.Digest {
	return []api.Digest{{}, filled(255), rising(0), rising(1), rising(224), {0: 1}, {31: 1}, {15: 255}, sha256.Sum256([]byte("a root"))}
}

func masters() []api.Key {
	return []api.Key{{}, filled(255), rising(0), rising(7), {0: 1}, {31: 1}, sha256.Sum256([]byte("a master"))}
}

// plain is a head whose fields are all unlike.
func plain() api.Head {
	return api.Head{Region: 2, Epoch: 258, Size: 70003, Root: rising(40), Tick: 16909060}
}

func least() api.Head {
	return api.Head{Region: 1, Epoch: 1}
}

func greatest() api.Head {
	return api.Head{Region: 5, Epoch: 900000000, Size: 100000, Root: filled(255), Tick: 900000000}
}

// rightHeads are the ends, and heads that are unlike plain in one field alone.
func rightHeads() []api.Head {
	l := []api.Head{least(), greatest(), plain()}
	h := plain()
	for h.Region = 1; h.Region <= 5; h.Region++ {
		l = append(l, h)
	}
	for _, n := range epochs {
		h := plain()
		h.Epoch = n
		l = append(l, h)
	}
	for _, n := range sizes {
		h := plain()
		h.Size = n
		l = append(l, h)
	}
	for _, n := range ticks {
		h := plain()
		h.Tick = n
		l = append(l, h)
	}
	for _, d := range roots() {
		h := plain()
		h.Root = d
		l = append(l, h)
	}
	return l
}

// wrongHeads are right in all fields but one, and some are in none.
func wrongHeads() []api.Head {
	l := []api.Head{{}, {Root: filled(255)}, {Region: 6, Epoch: 900000001, Size: 100001, Tick: 900000001}, {Region: -1, Epoch: -1, Size: -1, Tick: -1}}
	for _, base := range []api.Head{least(), greatest(), plain()} {
		for _, n := range noRegions {
			h := base
			h.Region = n
			l = append(l, h)
		}
		for _, n := range noEpochs {
			h := base
			h.Epoch = n
			l = append(l, h)
		}
		for _, n := range noSizes {
			h := base
			h.Size = n
			l = append(l, h)
		}
		for _, n := range noTicks {
			h := base
			h.Tick = n
			l = append(l, h)
		}
	}
	return l
}

// isRight is the chapter's word, in its own numbers.
func isRight(h api.Head) bool {
	return h.Region >= 1 && h.Region <= 5 && h.Epoch >= 1 && h.Epoch <= 900000000 && h.Size >= 0 && h.Size <= 100000 && h.Tick >= 0 && h.Tick <= 900000000
}

func canBe(s api.Signed) bool {
	return isRight(s.Head) && s.Node >= 1 && s.Node <= 3
}

// number is n's bytes, worked out by the library; the sign is lost.
func number(n int) string {
	return string(big.NewInt(int64(n)).Bytes())
}

// field is a field's bytes, whatever it has.
func field(tag int, data string) string {
	n := len(data)
	return string([]byte{byte(tag), byte(n >> 16), byte(n >> 8), byte(n)}) + data
}

// parts are the fields of a head, each as bytes.
func parts(h api.Head) []string {
	return []string{field(1, number(h.Region)), field(2, number(h.Epoch)), field(3, number(h.Size)), field(4, string(h.Root[:])), field(5, number(h.Tick))}
}

func signedParts(s api.Signed) []string {
	return []string{field(1, join(parts(s.Head))), field(2, number(s.Node)), field(3, string(s.Tag[:]))}
}

func join(l []string) string {
	var all string
	for _, s := range l {
		all += s
	}
	return all
}

// with is l with another part at a place.
func with(l []string, at int, part string) string {
	l = slices.Clone(l)
	l[at] = part
	return join(l)
}

// readFields takes anything that looks like fields, in whatever order.
func readFields(s string) []string {
	var datas []string
	for len(s) >= 4 {
		n := int(s[1])<<16 | int(s[2])<<8 | int(s[3])
		if len(s) < 4+n {
			break
		}
		datas = append(datas, s[4:4+n])
		s = s[4+n:]
	}
	return datas
}

func readNumber(s string) int {
	n := new(big.Int).SetBytes([]byte(s))
	if !n.IsInt64() {
		return -1
	}
	return int(n.Int64())
}

// headIn is the right head whose bytes s are: found by reading whatever there is, and laying it again.
func headIn(s string) (api.Head, bool) {
	l := readFields(s)
	if len(l) != 5 {
		return api.Head{}, false
	}
	h := api.Head{Region: readNumber(l[0]), Epoch: readNumber(l[1]), Size: readNumber(l[2]), Tick: readNumber(l[4])}
	copy(h.Root[:], l[3])
	if !isRight(h) || join(parts(h)) != s {
		return api.Head{}, false
	}
	return h, true
}

func signedIn(s string) (api.Signed, bool) {
	l := readFields(s)
	if len(l) != 3 {
		return api.Signed{}, false
	}
	h, there := headIn(l[0])
	x := api.Signed{Head: h, Node: readNumber(l[1])}
	copy(x.Tag[:], l[2])
	if !there || !canBe(x) || join(signedParts(x)) != s {
		return api.Signed{}, false
	}
	return x, true
}

func macOf(key [32]byte, data string) [32]byte {
	m := hmac.New(sha256.New, key[:])
	m.Write([]byte(data))
	return [32]byte(m.Sum(nil))
}

// tagOf is what a node makes of a head, worked out by the library.
func tagOf(master api.Key, h api.Head, node int) api.Digest {
	key := macOf(master, string([]byte{75, byte(h.Region), byte(node)}))
	return macOf(key, "head "+join(parts(h)))
}

func signedOf(master api.Key, h api.Head, node int) api.Signed {
	return api.Signed{Head: h, Node: node, Tag: tagOf(master, h, node)}
}

// unsigned are signed heads that may be, with tags of any kind: bytes tell nothing of who signed.
func unsigned() []api.Signed {
	var l []api.Signed
	for i, h := range rightHeads() {
		l = append(l, api.Signed{Head: h, Node: 1 + i%3, Tag: rising(i)})
	}
	for _, d := range roots() {
		for node := 1; node <= 3; node++ {
			l = append(l, api.Signed{Head: plain(), Node: node, Tag: d})
		}
	}
	return append(l, api.Signed{Head: least(), Node: 1}, api.Signed{Head: greatest(), Node: 3, Tag: filled(255)})
}

// impossible are signed heads that may not be, with the tags that a node would make of their lowest bytes.
func impossible(master api.Key) []api.Signed {
	var l []api.Signed
	for i, h := range wrongHeads() {
		l = append(l, signedOf(master, h, 1+i%3), api.Signed{Head: h, Node: 1 + i%3})
	}
	for _, h := range []api.Head{least(), greatest(), plain()} {
		for _, node := range noNodes {
			l = append(l, signedOf(master, h, node), api.Signed{Head: h, Node: node})
		}
	}
	return append(l, api.Signed{}, api.Signed{Node: 1}, api.Signed{Tag: filled(255)}, signedOf(master, api.Head{}, 4))
}
