package pack_test

import (
	"math"
	"strings"
	"testing"

	"estreat/api"
	"estreat/pack"
)

func TestPutLaysTagLengthAndData(t *testing.T) {
	for _, x := range []struct {
		b    string
		tag  int
		data string
		want string
	}{
		{"", 7, "ab", "\x07\x00\x00\x02ab"},
		{"", 1, "", "\x01\x00\x00\x00"},
		{"", 255, "\x00", "\xff\x00\x00\x01\x00"},
		{"xyz", 9, "q", "xyz\x09\x00\x00\x01q"},
		{"\x00", 128, "\xff\xfe", "\x00\x80\x00\x00\x02\xff\xfe"},
		{"\x09\x00\x00\x00", 2, "", "\x09\x00\x00\x00\x02\x00\x00\x00"},
	} {
		if got, e := pack.Put([]byte(x.b), x.tag, x.data); string(got) != x.want || e != api.OK {
			t.Errorf("P1.2: Put(% x, %d, % x) is % x, %d; want % x", x.b, x.tag, x.data, got, e, x.want)
		}
	}
	if got, e := pack.Put(nil, 7, "ab"); string(got) != "\x07\x00\x00\x02ab" || e != api.OK {
		t.Errorf("P1.2: Put(nil, 7, ab) is % x, %d", got, e)
	}
}

func TestPutTellsTheLengthInThreeBytes(t *testing.T) {
	for _, x := range []struct {
		n    int
		want string
	}{
		{0, "\x00\x00\x00"},
		{1, "\x00\x00\x01"},
		{255, "\x00\x00\xff"},
		{256, "\x00\x01\x00"},
		{258, "\x00\x01\x02"},
		{65535, "\x00\xff\xff"},
		{65536, "\x01\x00\x00"},
	} {
		data := strings.Repeat("d", x.n)
		b, e := pack.Put(nil, 3, data)
		if string(b) != "\x03"+x.want+data || e != api.OK {
			t.Fatalf("P1.2: Put of %d bytes: %d bytes, %d", x.n, len(b), e)
		}
		if f, n, e := pack.Get(b); f.Tag != 3 || f.Data != data || n != 4+x.n || e != api.OK {
			t.Errorf("P1.2: Get of %d bytes: tag %d, %d bytes, %d, %d", x.n, f.Tag, len(f.Data), n, e)
		}
	}
}

func TestPutRefuses(t *testing.T) {
	much := strings.Repeat("d", 65537)
	for _, x := range []struct {
		tag  int
		data string
		want api.Errno
	}{
		{0, "", api.ErrArg},
		{-1, "a", api.ErrArg},
		{-255, "a", api.ErrArg},
		{256, "a", api.ErrArg},
		{257, "a", api.ErrArg},
		{math.MinInt, "", api.ErrArg},
		{math.MaxInt, "", api.ErrArg},
		{0, much, api.ErrArg},
		{256, much, api.ErrArg},
		{1, much, api.ErrLimit},
		{255, much, api.ErrLimit},
		{7, strings.Repeat("d", 1<<24), api.ErrLimit},
		{7, strings.Repeat("d", 1<<24+1), api.ErrLimit},
	} {
		if got, e := pack.Put([]byte("ahead"), x.tag, x.data); len(got) != 0 || e != x.want {
			t.Errorf("P1.2: Put(.., %d, %d bytes) is % .20x, %d; want %d", x.tag, len(x.data), got, e, x.want)
		}
	}
}

func TestGetTakesTheFirstField(t *testing.T) {
	for _, x := range []struct {
		b     string
		field api.Field
		n     int
	}{
		{"\x07\x00\x00\x02ab", api.Field{Tag: 7, Data: "ab"}, 6},
		{"\x07\x00\x00\x02ab\x09", api.Field{Tag: 7, Data: "ab"}, 6},
		{"\x01\x00\x00\x00", api.Field{Tag: 1}, 4},
		{"\xff\x00\x00\x00\x00\x00\x00\x00", api.Field{Tag: 255}, 4},
		{"\x80\x00\x00\x01\x00\x00", api.Field{Tag: 128, Data: "\x00"}, 5},
	} {
		if f, n, e := pack.Get([]byte(x.b)); f != x.field || n != x.n || e != api.OK {
			t.Errorf("P1.2: Get(% x) is %+v, %d, %d; want %+v, %d", x.b, f, n, e, x.field, x.n)
		}
	}
}

func TestGetRefuses(t *testing.T) {
	full := strings.Repeat("d", 65536)
	for _, x := range []struct {
		name, b string
		want    api.Errno
	}{
		{"no byte", "", api.ErrPackEnd},
		{"one byte", "\x07", api.ErrPackEnd},
		{"two bytes", "\x07\x00", api.ErrPackEnd},
		{"three bytes", "\x07\x00\x00", api.ErrPackEnd},
		{"tag 0, three bytes", "\x00\x00\x00", api.ErrPackEnd},
		{"too long, three bytes", "\x07\xff\xff", api.ErrPackEnd},
		{"tag 0", "\x00\x00\x00\x00", api.ErrPackForm},
		{"tag 0, with data", "\x00\x00\x00\x02ab", api.ErrPackForm},
		{"tag 0, cut", "\x00\x00\x00\x02a", api.ErrPackForm},
		{"65537, cut", "\x07\x01\x00\x01", api.ErrPackForm},
		{"65537, whole", "\x07\x01\x00\x01" + full + "d", api.ErrPackForm},
		{"65792, cut", "\x07\x01\x01\x00", api.ErrPackForm},
		{"2 to the 17, cut", "\x07\x02\x00\x00", api.ErrPackForm},
		{"the greatest length, cut", "\x07\xff\xff\xff", api.ErrPackForm},
		{"tag 0 and 65537", "\x00\x01\x00\x01", api.ErrPackForm},
		{"one byte, none there", "\x07\x00\x00\x01", api.ErrPackEnd},
		{"two bytes, one there", "\x07\x00\x00\x02a", api.ErrPackEnd},
		{"256 bytes, 255 there", "\x07\x00\x01\x00" + full[:255], api.ErrPackEnd},
		{"65536 bytes, none there", "\x07\x01\x00\x00", api.ErrPackEnd},
		{"65536 bytes, 65535 there", "\x07\x01\x00\x00" + full[1:], api.ErrPackEnd},
	} {
		if f, n, e := pack.Get([]byte(x.b)); f != (api.Field{}) || n != 0 || e != x.want {
			t.Errorf("P1.2: Get of %s is tag %d, %d bytes, %d, %d; want %d", x.name, f.Tag, len(f.Data), n, e, x.want)
		}
	}
	if f, n, e := pack.Get(nil); f != (api.Field{}) || n != 0 || e != api.ErrPackEnd {
		t.Errorf("P1.2: Get(nil) is %+v, %d, %d; want ErrPackEnd", f, n, e)
	}
}

func TestWhatIsPutIsGotWithAnythingBehind(t *testing.T) {
	datas := []string{"", "a", "\x00\x00\x00\x00", "\xff\xfe\xfd", strings.Repeat("d", 300), strings.Repeat("\x00", 65536)}
	behinds := []string{"", "\x00", "\x00\x00\x00\x00", "\x07\x00", "\x01\x00\x00\x01z", "\xff\xff\xff\xff\xff"}
	for tag := 1; tag <= 255; tag++ {
		for i, data := range datas {
			behind := behinds[(tag+i)%len(behinds)]
			b, e := pack.Put([]byte("ahead"), tag, data)
			if e != api.OK {
				t.Fatalf("P1.2: Put(.., %d, %d bytes): %d", tag, len(data), e)
			}
			f, n, e := pack.Get(append(b[len("ahead"):], behind...))
			if f.Tag != tag || f.Data != data || n != len(b)-len("ahead") || e != api.OK {
				t.Fatalf("P1.4: tag %d, %d bytes come back as tag %d, %d bytes, %d, %d", tag, len(data), f.Tag, len(f.Data), n, e)
			}
		}
	}
}
