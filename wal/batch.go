package wal

import "estreat/api"

// maxTexts is how many texts a batch has at most.
const maxTexts = 1000

// A batch lies in as many places as it costs: its mark and how many texts it has in the first 16; then, for each text, its length in 8, and its bytes.
const (
	headRoom   = 16
	lengthRoom = 8
)

// complete is the mark of a batch that lies there as a whole; where none does yet, there is a 0.
const complete = 1

func isBatch(l []string) bool {
	for _, s := range l {
		if len(s) > api.MaxRecord {
			return false
		}
	}
	return len(l) <= maxTexts
}

func cost(l []string) int {
	n := headRoom
	for _, s := range l {
		n += lengthRoom + len(s)
	}
	return n
}

// laid is a batch as bytes, and behind it the 0 in the place of the next one's mark: there may be remains of a batch that a crash has cut off.
func laid(l []string) []byte {
	b := make([]byte, 0, cost(l)+1)
	b = append(b, complete)
	b = number(b, len(l), headRoom-1)
	for _, s := range l {
		b = number(b, len(s), lengthRoom)
		b = append(b, s...)
	}
	return append(b, 0)
}

// number lays n behind b, in so many places.
func number(b []byte, n, places int) []byte {
	for i := places - 1; i >= 0; i-- {
		b = append(b, byte(n>>(8*i)))
	}
	return b
}

// batches tells the texts of all complete batches in a half, and their costs; it gives up on what no wal lays.
func batches(half []byte) ([]string, int) {
	var l []string
	used := 0
all:
	for {
		switch half[used] {
		case 0:
			break all
		case complete:
			texts := batch(half[used : len(half)-1])
			l = append(l, texts...)
			used += cost(texts)
		default:
			panic(api.ErrWalSpoilt)
		}
	}
	return l, used
}

// batch tells the texts of the batch that b begins with.
func batch(b []byte) []string {
	var l []string
	head, b := cut(b, headRoom)
	for range value(head[1:], maxTexts) {
		var length, text []byte
		length, b = cut(b, lengthRoom)
		text, b = cut(b, value(length, api.MaxRecord))
		l = append(l, string(text))
	}
	return l
}

// cut parts b behind its first n bytes; it gives up if there are fewer.
func cut(b []byte, n int) ([]byte, []byte) {
	if len(b) < n {
		panic(api.ErrWalSpoilt)
	}
	return b[:n], b[n:]
}

// value is the number that b tells; it gives up on one that is above most.
func value(b []byte, most int) int {
	n := 0
	for _, x := range b {
		n = n<<8 | int(x)
		if n > most {
			panic(api.ErrWalSpoilt)
		}
	}
	return n
}
