// Package pack is layer 1: numbers and fields as bytes. See shared/doc/01-pack.md.
package pack

import (
	"iter"
	"math/bits"

	"estreat/api"
)

const (
	maxNumber   = 1<<62 - 1
	numberBytes = 8 // of the greatest number
	maxTag      = 255
	headBytes   = 4 // of a field: its tag, and how many bytes its data has
)

// Number is P1.1.
func Number(n int) (string, api.Errno) {
	if n < 0 || n > maxNumber {
		return "", api.ErrArg
	}
	b := make([]byte, (bits.Len(uint(n))+7)/8)
	for i := len(b) - 1; i >= 0; i-- {
		b[i] = byte(n)
		n >>= 8
	}
	return string(b), api.OK
}

// Value is P1.1.
func Value(s string) (int, api.Errno) {
	if len(s) > numberBytes || len(s) > 0 && s[0] == 0 {
		return 0, api.ErrPackForm
	}
	// Unsigned, as eight bytes may tell more than an int holds.
	var n uint64
	for i := range len(s) {
		n = n<<8 | uint64(s[i])
	}
	if n > maxNumber {
		return 0, api.ErrPackForm
	}
	return int(n), api.OK
}

// Put is P1.2.
func Put(b []byte, tag int, data string) ([]byte, api.Errno) {
	f := api.Field{Tag: tag, Data: data}
	if e := fault(0, f); e != api.OK {
		return nil, e
	}
	// A list of its own, as b may have room behind it that is somebody else's.
	out := make([]byte, 0, len(b)+headBytes+len(data))
	return appendField(append(out, b...), f), api.OK
}

// Get is P1.2.
func Get(b []byte) (api.Field, int, api.Errno) {
	if len(b) < headBytes {
		return api.Field{}, 0, api.ErrPackEnd
	}
	tag := int(b[0])
	size := int(b[1])<<16 | int(b[2])<<8 | int(b[3])
	end := headBytes + size
	switch {
	case tag == 0 || size > api.MaxField:
		return api.Field{}, 0, api.ErrPackForm
	case len(b) < end:
		return api.Field{}, 0, api.ErrPackEnd
	}
	return api.Field{Tag: tag, Data: string(b[headBytes:end])}, end, api.OK
}

// Lay is P1.3.
func Lay(l []api.Field) ([]byte, api.Errno) {
	var out []byte
	for f, e := range judged(l) {
		if e != api.OK {
			return nil, e
		}
		out = appendField(out, f)
	}
	return out, api.OK
}

// Read is P1.3.
func Read(b []byte) ([]api.Field, api.Errno) {
	var row []api.Field
	for f, e := range parsed(b) {
		if e != api.OK {
			return nil, e
		}
		row = append(row, f)
	}
	return row, api.OK
}

// judged goes through l, and tells beside each field what is wrong with it where it stands.
func judged(l []api.Field) iter.Seq2[api.Field, api.Errno] {
	return func(yield func(api.Field, api.Errno) bool) {
		last := 0
		for _, f := range l {
			if !yield(f, fault(last, f)) {
				return
			}
			last = f.Tag
		}
	}
}

// parsed goes through the fields that b is made of; behind the first error nothing comes, as no one knows where the next field would begin.
func parsed(b []byte) iter.Seq2[api.Field, api.Errno] {
	return func(yield func(api.Field, api.Errno) bool) {
		last := 0
		for rest := b; len(rest) > 0; {
			f, n, e := Get(rest)
			if e == api.OK && fault(last, f) != api.OK {
				// Of what Get answers, only a tag that does not rise is wrong: bytes that are no row's, not a wrong argument.
				e = api.ErrPackForm
			}
			if !yield(f, e) || e != api.OK {
				return
			}
			last, rest = f.Tag, rest[n:]
		}
	}
}

// fault tells what is wrong with f behind a field whose tag is last; 0 stands for none, so that tags below 1 do not rise either.
func fault(last int, f api.Field) api.Errno {
	switch {
	case f.Tag <= last:
		fallthrough
	case f.Tag > maxTag:
		return api.ErrArg
	case len(f.Data) > api.MaxField:
		return api.ErrLimit
	}
	return api.OK
}

// appendField wants a field without fault, as its length must go into three bytes.
func appendField(b []byte, f api.Field) []byte {
	n := len(f.Data)
	b = append(b, byte(f.Tag), byte(n>>16), byte(n>>8), byte(n))
	return append(b, f.Data...)
}
