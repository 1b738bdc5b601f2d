package head

import (
	"estreat/api"
	"estreat/pack"
)

// numberField wants a number of chapter 1; all that a right head and a node have are.
func numberField(tag, n int) api.Field {
	data, _ := pack.Number(n)
	return api.Field{Tag: tag, Data: data}
}

func digestField(tag int, d api.Digest) api.Field {
	return api.Field{Tag: tag, Data: string(d[:])}
}

// reader is what is left of a row. Each take wants the next field by its tag, so that a field which is missing, doubled or elsewhere is found out where it stands.
type reader []api.Field

// open makes no difference between bytes that are no row and no bytes: of neither a field can be taken.
func open(b []byte) reader {
	row, _ := pack.Read(b)
	return row
}

// into fills a place by one of a reader's takes, and tells whether there was what the place is for.
func into[T any](place *T, tag int, take func(tag int) (T, bool)) bool {
	v, there := take(tag)
	*place = v
	return there
}

func (r *reader) data(tag int) (string, bool) {
	if r.ended() || (*r)[0].Tag != tag {
		return "", false
	}
	data := (*r)[0].Data
	*r = (*r)[1:]
	return data, true
}

func (r *reader) number(tag int) (int, bool) {
	data, there := r.data(tag)
	n, e := pack.Value(data)
	return n, there && e == api.OK
}

func (r *reader) digest(tag int) (api.Digest, bool) {
	var d api.Digest
	data, there := r.data(tag)
	if !there || len(data) != len(d) {
		return d, false
	}
	copy(d[:], data)
	return d, true
}

func (r *reader) head(tag int) (api.Head, bool) {
	data, there := r.data(tag)
	h, e := Get([]byte(data))
	return h, there && e == api.OK
}

func (r *reader) ended() bool {
	return len(*r) == 0
}
