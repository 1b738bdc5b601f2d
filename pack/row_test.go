package pack_test

import (
	"math"
	"slices"
	"strings"
	"testing"

	"estreat/api"
	"estreat/pack"
)

func TestRowsAreLaidAndRead(t *testing.T) {
	full := strings.Repeat("d", 65536)
	for _, x := range []struct {
		name string
		row  []api.Field
		want string
	}{
		{"no field", nil, ""},
		{"no data", []api.Field{{Tag: 1}}, "\x01\x00\x00\x00"},
		{"the last tag", []api.Field{{Tag: 255, Data: "z"}}, "\xff\x00\x00\x01z"},
		{"neighbours", []api.Field{{Tag: 1, Data: "a"}, {Tag: 2, Data: "a"}}, "\x01\x00\x00\x01a\x02\x00\x00\x01a"},
		{"three", []api.Field{{Tag: 1, Data: "a"}, {Tag: 7, Data: "bc"}, {Tag: 255}}, "\x01\x00\x00\x01a\x07\x00\x00\x02bc\xff\x00\x00\x00"},
		{"high tags", []api.Field{{Tag: 127}, {Tag: 128}, {Tag: 254}}, "\x7f\x00\x00\x00\x80\x00\x00\x00\xfe\x00\x00\x00"},
		{"full ones", []api.Field{{Tag: 3, Data: full}, {Tag: 4, Data: full}}, "\x03\x01\x00\x00" + full + "\x04\x01\x00\x00" + full},
	} {
		if b, e := pack.Lay(x.row); string(b) != x.want || e != api.OK {
			t.Errorf("P1.3: Lay of %s is % .40x, %d", x.name, b, e)
		}
		if row, e := pack.Read([]byte(x.want)); !slices.Equal(row, x.row) || e != api.OK {
			t.Errorf("P1.3: Read of %s is %d fields, %d", x.name, len(row), e)
		}
	}
}

func TestARowOfAllTags(t *testing.T) {
	var row []api.Field
	var want []byte
	for tag := 1; tag <= 255; tag++ {
		data := strings.Repeat(string([]byte{byte(tag)}), tag%5)
		row = append(row, api.Field{Tag: tag, Data: data})
		want = append(want, byte(tag), 0, 0, byte(len(data)))
		want = append(want, data...)
	}
	b, e := pack.Lay(row)
	if string(b) != string(want) || e != api.OK {
		t.Fatalf("P1.3: Lay of all tags: %d bytes, %d", len(b), e)
	}
	if got, e := pack.Read(b); !slices.Equal(got, row) || e != api.OK {
		t.Errorf("P1.3: Read of all tags: %d fields, %d", len(got), e)
	}
}

func TestLayRefusesByTheFirstWrongField(t *testing.T) {
	much := strings.Repeat("d", 65537)
	for _, x := range []struct {
		name string
		row  []api.Field
		want api.Errno
	}{
		{"tag 0", []api.Field{{Tag: 0}}, api.ErrArg},
		{"tag -1", []api.Field{{Tag: -1}}, api.ErrArg},
		{"tag 256", []api.Field{{Tag: 256}}, api.ErrArg},
		{"the least tag", []api.Field{{Tag: math.MinInt}}, api.ErrArg},
		{"the greatest tag", []api.Field{{Tag: math.MaxInt}}, api.ErrArg},
		{"rising tags below 1", []api.Field{{Tag: -2}, {Tag: -1}, {Tag: 1}}, api.ErrArg},
		{"tag 256 at the end", []api.Field{{Tag: 255}, {Tag: 256}}, api.ErrArg},
		{"tag 0 at the end", []api.Field{{Tag: 5}, {Tag: 0}}, api.ErrArg},
		{"the same tag", []api.Field{{Tag: 2}, {Tag: 2}}, api.ErrArg},
		{"the same field", []api.Field{{Tag: 2, Data: "a"}, {Tag: 2, Data: "a"}}, api.ErrArg},
		{"a falling tag", []api.Field{{Tag: 2}, {Tag: 1}}, api.ErrArg},
		{"a tag that rises above the first alone", []api.Field{{Tag: 2}, {Tag: 9}, {Tag: 5}}, api.ErrArg},
		{"the first tag again", []api.Field{{Tag: 2}, {Tag: 9}, {Tag: 2}}, api.ErrArg},
		{"too many bytes", []api.Field{{Tag: 1, Data: much}}, api.ErrLimit},
		{"too many bytes at the end", []api.Field{{Tag: 1}, {Tag: 2, Data: much}}, api.ErrLimit},
		{"2 to the 24 bytes", []api.Field{{Tag: 1, Data: strings.Repeat("d", 1<<24)}}, api.ErrLimit},
		{"tag ahead of bytes", []api.Field{{Tag: 0, Data: much}}, api.ErrArg},
		{"high tag ahead of bytes", []api.Field{{Tag: 256, Data: much}}, api.ErrArg},
		{"order ahead of bytes", []api.Field{{Tag: 3}, {Tag: 3, Data: much}}, api.ErrArg},
		{"bytes, then a wrong tag", []api.Field{{Tag: 1, Data: much}, {Tag: 0}}, api.ErrLimit},
		{"bytes, then the same tag", []api.Field{{Tag: 1, Data: much}, {Tag: 1}}, api.ErrLimit},
		{"a wrong tag, then bytes", []api.Field{{Tag: 0}, {Tag: 1, Data: much}}, api.ErrArg},
		{"the same tag, then bytes", []api.Field{{Tag: 4}, {Tag: 4}, {Tag: 5, Data: much}}, api.ErrArg},
	} {
		if b, e := pack.Lay(x.row); len(b) != 0 || e != x.want {
			t.Errorf("P1.3: Lay of %s is % .20x, %d; want %d", x.name, b, e, x.want)
		}
	}
}

func TestReadRefusesByTheFirstWrongField(t *testing.T) {
	full := strings.Repeat("d", 65536)
	for _, x := range []struct {
		name, b string
		want    api.Errno
	}{
		{"three bytes", "\x07\x00\x00", api.ErrPackEnd},
		{"tag 0, three bytes", "\x00\x00\x00", api.ErrPackEnd},
		{"tag 0", "\x00\x00\x00\x00", api.ErrPackForm},
		{"65537 bytes", "\x07\x01\x00\x01" + full + "d", api.ErrPackForm},
		{"data that is cut", "\x07\x00\x00\x02a", api.ErrPackEnd},
		{"65536 bytes that are cut", "\x07\x01\x00\x00" + full[1:], api.ErrPackEnd},
		{"a byte behind", "\x07\x00\x00\x00\x08", api.ErrPackEnd},
		{"a byte 0 behind", "\x07\x00\x00\x00\x00", api.ErrPackEnd},
		{"tag 0 behind", "\x07\x00\x00\x00\x00\x00\x00\x00", api.ErrPackForm},
		{"a cut field behind", "\x07\x00\x00\x00\x08\x00\x00\x01", api.ErrPackEnd},
		{"a long one behind", "\x07\x00\x00\x00\x08\x01\x00\x01", api.ErrPackForm},
		{"the same tag", "\x07\x00\x00\x00\x07\x00\x00\x00", api.ErrPackForm},
		{"the same field", "\x07\x00\x00\x01a\x07\x00\x00\x01a", api.ErrPackForm},
		{"a falling tag", "\x07\x00\x00\x00\x06\x00\x00\x00", api.ErrPackForm},
		{"a tag that rises above the first alone", "\x02\x00\x00\x00\x09\x00\x00\x00\x05\x00\x00\x00", api.ErrPackForm},
		{"the first tag again", "\x02\x00\x00\x00\x09\x00\x00\x00\x02\x00\x00\x00", api.ErrPackForm},
		{"the same tag, then a cut one", "\x07\x00\x00\x00\x07\x00\x00\x00\x08\x00", api.ErrPackForm},
		{"a falling tag, then cut data", "\x07\x00\x00\x00\x06\x00\x00\x00\x08\x00\x00\x05a", api.ErrPackForm},
		{"the same tag, cut", "\x07\x00\x00\x00\x07\x00\x00\x02a", api.ErrPackEnd},
		{"the same tag, one byte", "\x07\x00\x00\x00\x07", api.ErrPackEnd},
	} {
		if row, e := pack.Read([]byte(x.b)); len(row) != 0 || e != x.want {
			t.Errorf("P1.3: Read of %s is %d fields, %d; want %d", x.name, len(row), e, x.want)
		}
	}
}

func TestARowThatIsCutIsRefusedButBetweenFields(t *testing.T) {
	row := []api.Field{{Tag: 1, Data: "abc"}, {Tag: 2}, {Tag: 9, Data: "\x00\x00\x00\x00\x00"}, {Tag: 255, Data: "z"}}
	b, e := pack.Lay(row)
	if e != api.OK {
		t.Fatalf("P1.3: Lay: %d", e)
	}
	ends := map[int]int{0: 0} // a field's end, and how many fields are there by then
	end := 0
	for i, f := range row {
		end += 4 + len(f.Data)
		ends[end] = i + 1
	}
	for n := range len(b) + 1 {
		got, e := pack.Read(b[:n])
		if k, whole := ends[n]; whole {
			if !slices.Equal(got, row[:k]) || e != api.OK {
				t.Errorf("P1.3: the first %d bytes are %+v, %d", n, got, e)
			}
		} else if len(got) != 0 || e != api.ErrPackEnd {
			t.Errorf("P1.3: the first %d bytes are %+v, %d; want ErrPackEnd", n, got, e)
		}
	}
}

// texts are all of at most longest bytes, each of them below letters.
func texts(letters, longest int) []string {
	all := []string{""}
	for from, n := 0, 0; n < longest; n++ {
		to := len(all)
		for _, s := range all[from:to] {
			for c := range letters {
				all = append(all, s+string([]byte{byte(c)}))
			}
		}
		from = to
	}
	return all
}

// smallRows are all rows of tags 1 and 2 whose data are of datas.
func smallRows(datas []string) [][]api.Field {
	rows := [][]api.Field{nil}
	for tag := 1; tag <= 2; tag++ {
		for _, row := range slices.Clone(rows) {
			for _, data := range datas {
				rows = append(rows, append(slices.Clone(row), api.Field{Tag: tag, Data: data}))
			}
		}
	}
	return rows
}

func TestUnlikeRowsHaveUnlikeBytesAndNoOtherBytesAreRows(t *testing.T) {
	const letters, longest = 3, 10
	rowOf := map[string][]api.Field{}
	for _, row := range smallRows(texts(letters, 2)) {
		b, e := pack.Lay(row)
		if e != api.OK {
			t.Fatalf("P1.3: Lay(%+v): %d", row, e)
		}
		if other, there := rowOf[string(b)]; there {
			t.Fatalf("P1.4: %+v and %+v have the same bytes % x", row, other, b)
		}
		rowOf[string(b)] = row
	}
	for _, s := range texts(letters, longest) {
		want, there := rowOf[s]
		row, e := pack.Read([]byte(s))
		if there && (!slices.Equal(row, want) || e != api.OK) {
			t.Fatalf("P1.4: % x is read as %+v, %d; want %+v", s, row, e, want)
		}
		if !there && (len(row) != 0 || e != api.ErrPackEnd && e != api.ErrPackForm) {
			t.Fatalf("P1.3: % x is read as %+v, %d; want an error", s, row, e)
		}
	}
}

func FuzzRead(f *testing.F) {
	for _, s := range []string{"", "\x01\x00\x00\x01a\x07\x00\x00\x02bc", "\x07\x00\x00\x00\x07\x00\x00\x00", "\x07\x01\x00\x01", "\x07\x00\x00\x02a"} {
		f.Add([]byte(s))
	}
	f.Fuzz(func(t *testing.T, b []byte) {
		row, e := pack.Read(b)
		if e != api.OK {
			if len(row) != 0 || e != api.ErrPackEnd && e != api.ErrPackForm {
				t.Errorf("R1: Read(% x) is %+v, %d", b, row, e)
			}
			return
		}
		if back, e := pack.Lay(row); string(back) != string(b) || e != api.OK {
			t.Errorf("P1.4: % x is read as %+v, and laid as % x, %d", b, row, back, e)
		}
	})
}
