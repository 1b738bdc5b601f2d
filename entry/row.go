package entry

import (
	"bytes"

	"estreat/api"
	"estreat/head"
	"estreat/pack"
)

// read tells the thing whose bytes b are. What take makes of a row need not be what the row tells: a field that is missing, too much or malformed is lost in it, and then the thing is laid as other bytes than b, or not at all.
func read[T any](b []byte, take func(row) T, lay func(T) ([]byte, api.Errno)) (T, api.Errno) {
	var none T
	// Bytes that are no row have no field, and nothing is right that is taken of none.
	l, _ := pack.Read(b)
	x := take(l)
	again, e := lay(x)
	if e != api.OK || !bytes.Equal(again, b) {
		return none, api.ErrEntryForm
	}
	return x, api.OK
}

// row is what bytes are made of. Whatever is asked of it and is not there is zero.
type row []api.Field

func takeClaim(r row) api.Claim {
	return api.Claim{
		Region: r.number(claimRegion),
		Epoch:  r.number(claimEpoch),
		Node:   r.number(claimNode),
		Size:   r.number(claimSize),
		Root:   r.digest(claimRoot),
	}
}

func takeEntry(r row) api.Entry {
	e := api.Entry{
		Kind:   api.EntryKind(r.number(entryKind)),
		Client: r.number(entryClient),
		Seq:    r.number(entrySeq),
		Text:   r.data(entryText),
	}
	e.Head, _ = head.GetSigned([]byte(r.data(entryHead)))
	e.Claim, _ = GetClaim([]byte(r.data(entryClaim)))
	return e
}

func takeItem(r row) api.Item {
	x := api.Item{Epoch: r.number(itemEpoch)}
	x.Entry, _ = Get([]byte(r.data(itemEntry)))
	return x
}

func (r row) data(tag int) string {
	for _, f := range r {
		if f.Tag == tag {
			return f.Data
		}
	}
	return ""
}

func (r row) number(tag int) int {
	n, _ := pack.Value(r.data(tag))
	return n
}

func (r row) digest(tag int) api.Digest {
	var d api.Digest
	copy(d[:], r.data(tag))
	return d
}

// numberField wants a number of chapter 1; all that right things have are.
func numberField(tag, n int) api.Field {
	data, _ := pack.Number(n)
	return api.Field{Tag: tag, Data: data}
}
