package keep

import (
	"estreat/api"
	"estreat/entry"
	"estreat/pack"
)

// A text is fields, one behind the other: one of each of the first tags, and as many of the last one as the record has Items. That is no row, as a row has no tag twice, and no field has room for all Items.
const (
	recordKind  = 1
	recordEpoch = 2
	recordFrom  = 3
	recordItem  = 4
	recordClaim = 5
	recordItems = 6
)

const mostFields = recordClaim + api.MaxItems

// PutRecord is P15.3.
func PutRecord(r api.Record) (string, api.Errno) {
	if !mayBe(r) {
		return "", api.ErrKeepForm
	}
	// There are no errors from here on, as all of it is right, but for an Item and a Claim that are not there: these have no bytes.
	claim, _ := entry.PutClaim(r.Claim)
	b, _ := pack.Lay([]api.Field{
		numberField(recordKind, int(r.Kind)),
		numberField(recordEpoch, r.Epoch),
		numberField(recordFrom, r.From),
		itemField(recordItem, r.Item),
		{Tag: recordClaim, Data: string(claim)},
	})
	for _, x := range r.Items {
		one, _ := pack.Lay([]api.Field{itemField(recordItems, x)})
		b = append(b, one...)
	}
	return string(b), api.OK
}

// GetRecord is P15.3. What take makes of the fields need not be what s tells: whatever is missing, too much or malformed is lost in it, and then the record is laid as another text than s, or not at all.
func GetRecord(s string) (api.Record, api.Errno) {
	r := take(fields(s))
	again, e := PutRecord(r)
	if e != api.OK || again != s {
		return api.Record{}, api.ErrKeepForm
	}
	return r, api.OK
}

// fields are the first ones of s, up to what is none; no more than a record has, as s may be very long.
func fields(s string) []api.Field {
	var l []api.Field
	rest := []byte(s)
	for range mostFields {
		f, n, e := pack.Get(rest)
		if e != api.OK {
			break
		}
		l = append(l, f)
		rest = rest[n:]
	}
	return l
}

func take(l []api.Field) api.Record {
	var r api.Record
	for _, f := range l {
		switch f.Tag {
		case recordKind:
			r.Kind = api.RecordKind(number(f))
		case recordEpoch:
			r.Epoch = number(f)
		case recordFrom:
			r.From = number(f)
		case recordItem:
			r.Item = item(f)
		case recordClaim:
			r.Claim, _ = entry.GetClaim([]byte(f.Data))
		case recordItems:
			r.Items = append(r.Items, item(f))
		}
	}
	return r
}

// number is 0 for what is none.
func number(f api.Field) int {
	n, _ := pack.Value(f.Data)
	return n
}

// item is a zero one for what is none.
func item(f api.Field) api.Item {
	x, _ := entry.GetItem([]byte(f.Data))
	return x
}

// numberField wants a number of chapter 1; all that records have, if they may be, are.
func numberField(tag, n int) api.Field {
	data, _ := pack.Number(n)
	return api.Field{Tag: tag, Data: data}
}

func itemField(tag int, x api.Item) api.Field {
	data, _ := entry.PutItem(x)
	return api.Field{Tag: tag, Data: string(data)}
}
