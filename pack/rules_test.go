package pack_test

import (
	"bytes"
	"slices"
	"strings"
	"testing"

	"estreat/api"
	"estreat/pack"
)

// roomy is s with room behind it, all of it 0xee, and that whole.
func roomy(s string) (b, whole []byte) {
	whole = append([]byte(s), bytes.Repeat([]byte{0xee}, 100)...)
	return whole[:len(s)], whole
}

func spoil(b []byte) {
	for i := range b {
		b[i] = 0xdd
	}
}

func TestPutLeavesWhatIsHandedIn(t *testing.T) {
	for _, s := range []string{"", "ahead"} {
		b, whole := roomy(s)
		before := slices.Clone(whole)
		one, e := pack.Put(b, 1, "one")
		two, f := pack.Put(b, 2, "two")
		if e != api.OK || f != api.OK {
			t.Fatalf("P1.2: Put: %d, %d", e, f)
		}
		if !bytes.Equal(whole, before) {
			t.Errorf("R2: Put changed what it was handed, or the room behind it: % x", whole)
		}
		spoil(whole)
		if string(one) != s+"\x01\x00\x00\x03one" {
			t.Errorf("R2: what Put answered hangs on what it was handed, or on a later answer: % x", one)
		}
		spoil(one[:cap(one)])
		if string(two) != s+"\x02\x00\x00\x03two" {
			t.Errorf("R2: two answers of Put share their memory: % x", two)
		}
	}
}

func TestPutOnAnAnswerLeavesThatAnswer(t *testing.T) {
	one, _ := pack.Put(nil, 1, "one")
	two, _ := pack.Put(one, 2, "two")
	three, _ := pack.Put(one, 3, "xyz")
	spoil(one[:cap(one)])
	if string(two) != "\x01\x00\x00\x03one\x02\x00\x00\x03two" || string(three) != "\x01\x00\x00\x03one\x03\x00\x00\x03xyz" {
		t.Errorf("R2: Put goes on in the memory of an earlier answer: % x, % x", two, three)
	}
}

func TestPutThatIsRefusedLeavesWhatIsHandedIn(t *testing.T) {
	b, whole := roomy("ahead")
	before := slices.Clone(whole)
	pack.Put(b, 0, "a")
	pack.Put(b, 256, "a")
	pack.Put(b, 1, strings.Repeat("d", 65537))
	if !bytes.Equal(whole, before) {
		t.Errorf("R2: Put changed what it was handed: % x", whole)
	}
}

func TestGetLeavesWhatIsHandedIn(t *testing.T) {
	b, whole := roomy("\x07\x00\x00\x02ab\x09")
	before := slices.Clone(whole)
	f, _, e := pack.Get(b)
	if !bytes.Equal(whole, before) {
		t.Errorf("R2: Get changed what it was handed: % x", whole)
	}
	spoil(whole)
	if f != (api.Field{Tag: 7, Data: "ab"}) || e != api.OK {
		t.Errorf("R2: Get's field hangs on what it was handed: %+v, %d", f, e)
	}
}

func TestGetLooksAtNoByteBehindTheEnd(t *testing.T) {
	whole := []byte("\x07\x00\x00\x02ab")
	for n := range len(whole) {
		if f, k, e := pack.Get(whole[:n]); f != (api.Field{}) || k != 0 || e != api.ErrPackEnd {
			t.Errorf("P1.2: Get of the first %d bytes is %+v, %d, %d; want ErrPackEnd", n, f, k, e)
		}
	}
}

func TestLayLeavesWhatIsHandedIn(t *testing.T) {
	l := []api.Field{{Tag: 1, Data: "a"}, {Tag: 7, Data: "bc"}, {Tag: 9, Data: "behind"}}
	before := slices.Clone(l)
	const want = "\x01\x00\x00\x01a\x07\x00\x00\x02bc"
	one, e := pack.Lay(l[:2])
	two, f := pack.Lay(l[:2])
	if e != api.OK || f != api.OK || !slices.Equal(l, before) {
		t.Errorf("R2: Lay changed what it was handed: %+v, %d, %d", l, e, f)
	}
	clear(l)
	if string(one) != want {
		t.Errorf("R2: Lay's bytes hang on what it was handed: % x", one)
	}
	spoil(one[:cap(one)])
	if string(two) != want {
		t.Errorf("R2: two answers of Lay share their memory: % x", two)
	}
	wrong := []api.Field{{Tag: 7, Data: "b"}, {Tag: 1, Data: "a"}}
	pack.Lay(wrong)
	if !slices.Equal(wrong, []api.Field{{Tag: 7, Data: "b"}, {Tag: 1, Data: "a"}}) {
		t.Errorf("R2: Lay changed what it refused: %+v", wrong)
	}
}

func TestReadLeavesWhatIsHandedIn(t *testing.T) {
	b, whole := roomy("\x01\x00\x00\x01a\x07\x00\x00\x02bc")
	before := slices.Clone(whole)
	want := []api.Field{{Tag: 1, Data: "a"}, {Tag: 7, Data: "bc"}}
	one, e := pack.Read(b)
	two, f := pack.Read(b)
	if e != api.OK || f != api.OK || !bytes.Equal(whole, before) {
		t.Errorf("R2: Read changed what it was handed: % x, %d, %d", whole, e, f)
	}
	spoil(whole)
	if !slices.Equal(one, want) {
		t.Errorf("R2: Read's row hangs on what it was handed: %+v", one)
	}
	clear(one[:cap(one)])
	if !slices.Equal(two, want) {
		t.Errorf("R2: two answers of Read share their memory: %+v", two)
	}
}

func TestAnswersHangOnTheArgumentsAlone(t *testing.T) {
	b := []byte("\x01\x00\x00\x01a\x07\x00\x00\x02bc")
	for range 3 {
		pack.Number(-1)
		pack.Value("\x00")
		pack.Put(nil, 0, "")
		pack.Read([]byte("\x09\x00\x00\x00\x01"))
		if s, e := pack.Number(258); s != "\x01\x02" || e != api.OK {
			t.Errorf("R2: Number(258) is % x, %d", s, e)
		}
		if n, e := pack.Value("\x01\x02"); n != 258 || e != api.OK {
			t.Errorf("R2: Value(01 02) is %d, %d", n, e)
		}
		row, e := pack.Read(b)
		if back, f := pack.Lay(row); !bytes.Equal(back, b) || e != api.OK || f != api.OK {
			t.Errorf("R2: % x is read and laid as % x, %d, %d", b, back, e, f)
		}
	}
}

func TestTextsMayHaveAnyBytes(t *testing.T) {
	var all []byte
	for c := range 256 {
		all = append(all, byte(c))
	}
	row := []api.Field{{Tag: 1, Data: string(all)}, {Tag: 2, Data: "\xff\xfe no runes \xc3"}}
	b, e := pack.Lay(row)
	if e != api.OK {
		t.Fatalf("R4: Lay: %d", e)
	}
	if got, e := pack.Read(b); !slices.Equal(got, row) || e != api.OK {
		t.Errorf("R4: Read: %+v, %d", got, e)
	}
}
