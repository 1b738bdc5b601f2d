package head_test

import (
	"bytes"
	"slices"
	"strings"
	"sync"
	"testing"

	"estreat/api"
	"estreat/head"
)

// roomy is s with room behind it, all of it 0xee, and that whole.
func roomy(s string) (b, whole []byte) {
	whole = append([]byte(s), bytes.Repeat([]byte{0xee}, 200)...)
	return whole[:len(s)], whole
}

func spoil(b []byte) {
	for i := range b {
		b[i] = 0xdd
	}
}

func TestCallsEndAtAllArguments(t *testing.T) {
	numbers := slices.Concat(farOff, []int{0, 1, 3, 5, 6, 100000, 100001, 900000000})
	for _, region := range numbers {
		for _, epoch := range numbers {
			for _, size := range numbers {
				for i, tick := range numbers {
					h := api.Head{Region: region, Epoch: epoch, Size: size, Tick: tick}
					want := api.ErrHeadForm
					if isRight(h) {
						want = api.OK
					}
					b, e := head.Put(h)
					if e != want || (len(b) == 0) != (e != api.OK) || head.Check(h) != want {
						t.Fatalf("R1: Put(%+v) is % x, %d; Check is %d; want %d", h, b, e, head.Check(h), want)
					}
					node := numbers[(i+size&7)%len(numbers)]
					if !canBe(api.Signed{Head: h, Node: node}) {
						want = api.ErrHeadForm
					}
					if s, e := head.Sign(api.Key{}, h, node); e != want || (s == api.Signed{}) != (e != api.OK) {
						t.Fatalf("R1: Sign(.., %+v, %d) is %+v, %d; want %d", h, node, s, e, want)
					}
				}
			}
		}
	}
}

func TestReadingEndsWithManyBytes(t *testing.T) {
	full := strings.Repeat("d", 65536)
	var row strings.Builder
	for tag := 1; tag <= 255; tag++ {
		row.WriteString(field(tag, full))
	}
	for _, s := range []string{row.String(), strings.Repeat("\x00", 1<<20), strings.Repeat("\xff", 1<<20), strings.Repeat("\x01", 1<<20), strings.Repeat(field(1, "\x01"), 1<<16)} {
		refuses(t, "many bytes", s)
		refusesSigned(t, "many bytes", s)
	}
}

// Fields in fields in fields: what is read goes no deeper than a signed head's own head.
func TestReadingEndsWithWhatIsNested(t *testing.T) {
	s := join(signedParts(unsigned()[0]))
	for len(s) < 60000 {
		s = field(1, s) + field(2, "\x01") + field(3, strings.Repeat("\x00", 32))
		refuses(t, "nested", s)
		refusesSigned(t, "nested", s)
	}
}

func TestReadingLeavesWhatIsHandedIn(t *testing.T) {
	for _, x := range unsigned() {
		for _, s := range []string{join(signedParts(x)), join(parts(x.Head)), "\x01\x00\x00\x01\x01", ""} {
			b, whole := roomy(s)
			before := slices.Clone(whole)
			h, e := head.Get(b)
			y, f := head.GetSigned(b)
			if !bytes.Equal(whole, before) {
				t.Errorf("R2: what was handed in is changed, or the room behind it: % x", whole)
			}
			spoil(whole)
			wantHead, isHead := headIn(s)
			wantSigned, isSigned := signedIn(s)
			if h != wantHead || y != wantSigned || (e == api.OK) != isHead || (f == api.OK) != isSigned {
				t.Errorf("R2: what is read of % x hangs on its memory: %+v, %d, %+v, %d", s, h, e, y, f)
			}
		}
	}
}

func TestReadingLooksAtNoByteBehindTheEnd(t *testing.T) {
	whole := []byte(join(parts(plain())))
	for n := range len(whole) {
		if h, e := head.Get(whole[:n]); h != (api.Head{}) || e != api.ErrHeadForm {
			t.Errorf("P7.1: Get of the first %d bytes is %+v, %d", n, h, e)
		}
	}
	whole = []byte(join(signedParts(unsigned()[0])))
	for n := range len(whole) {
		if s, e := head.GetSigned(whole[:n]); s != (api.Signed{}) || e != api.ErrHeadForm {
			t.Errorf("P7.3: GetSigned of the first %d bytes is %+v, %d", n, s, e)
		}
	}
}

func TestBytesThatComeOutAreNew(t *testing.T) {
	for _, x := range unsigned() {
		one, e := head.Put(x.Head)
		two, f := head.Put(x.Head)
		spoil(one[:cap(one)])
		three, g := head.Put(x.Head)
		if want := join(parts(x.Head)); string(two) != want || string(three) != want || e != api.OK || f != api.OK || g != api.OK {
			t.Errorf("R2: answers of Put share their memory: % x, % x", two, three)
		}
		one, e = head.PutSigned(x)
		two, f = head.PutSigned(x)
		spoil(one[:cap(one)])
		three, g = head.PutSigned(x)
		if want := join(signedParts(x)); string(two) != want || string(three) != want || e != api.OK || f != api.OK || g != api.OK {
			t.Errorf("R2: answers of PutSigned share their memory: % x, % x", two, three)
		}
	}
}

func TestArgumentsStay(t *testing.T) {
	for _, master := range masters() {
		for _, x := range slices.Concat(unsigned(), impossible(master)) {
			key, s, h := master, x, x.Head
			head.Check(h)
			head.Put(h)
			head.Sign(key, h, s.Node)
			head.Verify(key, s)
			head.PutSigned(s)
			if key != master || s != x || h != x.Head {
				t.Errorf("R2: what was handed in is changed: %x, %+v, %+v", key, s, h)
			}
		}
	}
}

// What a call answers hangs on its arguments, not on the calls ahead of it.
func TestCallsAnswerTheSameAgain(t *testing.T) {
	between := func() {
		head.Check(api.Head{})
		head.Put(greatest())
		head.Put(api.Head{})
		head.Get([]byte(join(parts(greatest()))))
		head.Get([]byte("\x01\x00\x00\x01\x05"))
		head.Sign(filled(255), greatest(), 3)
		head.Sign(filled(255), greatest(), 4)
		head.Verify(filled(255), api.Signed{Head: greatest(), Node: 3})
		head.PutSigned(api.Signed{Head: greatest(), Node: 3, Tag: filled(255)})
		head.GetSigned([]byte("\x01\x00\x00\x01\x05"))
	}
	master := api.Key(rising(6))
	for _, h := range rightHeads() {
		want := signedOf(master, h, 2)
		for range 2 {
			wantCheck(t, h)
			between()
			wantPut(t, h, join(parts(h)))
			between()
			wantGet(t, "again", join(parts(h)))
			between()
			if s, e := head.Sign(master, h, 2); s != want || e != api.OK {
				t.Errorf("R2: Sign(%x, %+v, 2) is %+v, %d", master, h, s, e)
			}
			between()
			wantVerify(t, "again", master, want, api.OK)
			between()
			wantGetSigned(t, "again", join(signedParts(want)))
			between()
			refuses(t, "again", "")
			refusesSigned(t, "again", "")
		}
	}
}

func TestCallsBesideOneAnother(t *testing.T) {
	var all sync.WaitGroup
	for worker := range 8 {
		all.Go(func() {
			master := api.Key(rising(worker))
			for i, h := range rightHeads() {
				node := 1 + i%3
				wantPut(t, h, join(parts(h)))
				wantGet(t, "beside others", join(parts(h)))
				s, _ := head.Sign(master, h, node)
				wantVerify(t, "beside others", master, s, api.OK)
				wantGetSigned(t, "beside others", join(signedParts(s)))
			}
		})
	}
	all.Wait()
}
