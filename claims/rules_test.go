package claims_test

import (
	"slices"
	"sync"
	"testing"

	"estreat/api"
	"estreat/claims"
)

// roomy is l with room behind it, all of it strange things, and that whole.
func roomy[T any](l []T, strange T) (row, whole []T) {
	whole = slices.Concat(l, slices.Repeat([]T{strange}, 9))
	return whole[:len(l)], whole
}

// spoil changes all that a list reaches.
func spoil[T any](l []T, strange T) {
	l = l[:cap(l)]
	for i := range l {
		l[i] = strange
	}
}

var (
	strangeClaim = api.Claim{Region: 77, Epoch: -77, Node: 77, Size: 77, Root: rising(77)}
	strangeAddr  = api.Addr{Region: 77, Node: -77}
)

func someRows() [][]api.Addr {
	return [][]api.Addr{nil, {}, {at(1, 1)}, {at(0, 0)}, {at(2, 1), at(2, 2), at(3, 1), at(3, 2)}, {at(3, 1), at(1, 1), at(3, 1)}, othersOf(5, 3)}
}

func someClaims() [][]api.Claim {
	return [][]api.Claim{nil, {}, {{}}, made(1), made(3), made(20), {claim(2, 1), claim(1, 1)}, {claim(1, 1), claim(1, 1)}, {claim(1, 1), {}}}
}

func callAll(l []api.Claim, c api.Claim, row []api.Addr, a api.Addr) {
	claims.Check(l)
	claims.Find(l, c.Region, c.Epoch)
	claims.Record(l, c)
	claims.Add(row, a)
	for regions := range 7 {
		claims.Enough(regions, 1, row)
	}
}

func TestCallsEndAtAllArguments(t *testing.T) {
	numbers := append(farOff, 0, 1, 2, 3, 4, 5, 6)
	for _, l := range someClaims() {
		wantCheck(t, "any claims", l)
		for _, region := range numbers {
			for _, epoch := range numbers {
				wantFind(t, l, region, epoch)
				wantRecord(t, l, api.Claim{Region: region, Epoch: epoch, Node: 1})
			}
		}
		for _, c := range wrongClaims() {
			wantRecord(t, l, c)
		}
	}
	for _, l := range someRows() {
		for _, m := range numbers {
			for _, n := range numbers {
				wantAdd(t, l, at(m, n))
				wantEnough(t, m, n, l)
			}
		}
	}
}

func TestVeryLongRows(t *testing.T) {
	l := make([]api.Addr, 1<<20)
	for i := range l {
		l[i] = at(i%7, i)
	}
	wantAdd(t, l, at(7, 0))
	wantAdd(t, l, at(-1, 0))
	wantAdd(t, l, at(3, 4))
	wantEnough(t, 3, 1, l)
	wantEnough(t, 3, 1, append(l, othersOf(3, 1)...))
}

// What is handed in stays, with the room behind it.
func TestClaimsAndRowsStay(t *testing.T) {
	for _, was := range someClaims() {
		for _, c := range []api.Claim{claim(1, 1), claim(2, 5), claim(5, 900000000), others(claim(1, 2))[0], {}} {
			l, whole := roomy(was, strangeClaim)
			before := slices.Clone(whole)
			callAll(l, c, nil, at(1, 1))
			if !slices.Equal(whole, before) {
				t.Errorf("R2: %v is changed, or the room behind it, where %+v is recorded", was, c)
			}
		}
	}
	for _, was := range someRows() {
		for _, a := range []api.Addr{at(0, 1), at(1, 1), at(2, 3), at(3, 1), at(9, 9)} {
			l, whole := roomy(was, strangeAddr)
			before := slices.Clone(whole)
			callAll(nil, claim(1, 1), l, a)
			if !slices.Equal(whole, before) {
				t.Errorf("R2: %v is changed, or the room behind it, where %v is added", was, a)
			}
		}
	}
}

// Rows that have room behind them are no longer than they are.
func TestRowsEndAtTheirEnd(t *testing.T) {
	l, _ := roomy(made(6), strangeClaim)
	wantCheck(t, "claims with room behind", l)
	wantFind(t, l, 77, -77)
	wantRecord(t, l, claim(5, 900000000))
	row, _ := roomy([]api.Addr{at(2, 1), at(2, 2), at(3, 1)}, at(3, 2))
	wantAdd(t, row, at(3, 2))
	if claims.Enough(3, 1, row) {
		t.Errorf("P12.3: Enough has looked at the room behind a row")
	}
}

// What comes out shares nothing with what was handed in, nor with what comes out of another call: not where it is a longer one, and not where it is the same.
func TestClaimsThatComeOutAreNew(t *testing.T) {
	for _, n := range []int{0, 1, 3, 20} {
		for _, c := range append(made(n), claim(1, 1), claim(3, 3), claim(5, 900000000)) {
			l, whole := roomy(made(n), strangeClaim)
			before := slices.Clone(whole)
			want, _ := withClaim(made(n), c)
			one, _ := claims.Record(l, c)
			two, _ := claims.Record(l, c)
			spoil(one, claim(2, 2))
			if !slices.Equal(whole, before) {
				t.Errorf("R2: what Record of %+v told shares memory with what was handed in", c)
			}
			if three, _ := claims.Record(l, c); !slices.Equal(two, want) || !slices.Equal(three, want) {
				t.Errorf("R2: what Record of %+v told shares memory with what comes out elsewhere", c)
			}
			spoil(whole, claim(2, 2))
			if !slices.Equal(two, want) {
				t.Errorf("R2: what Record of %+v told is changed with what was handed in", c)
			}
		}
	}
}

func TestAddressesThatComeOutAreNew(t *testing.T) {
	for _, was := range someRows() {
		for _, a := range append(slices.Clone(was), at(0, 1), at(2, 2), at(2, 3), at(9, 9)) {
			l, whole := roomy(was, strangeAddr)
			before := slices.Clone(whole)
			want := slices.Clone(withAddr(was, a))
			one, two := claims.Add(l, a), claims.Add(l, a)
			spoil(one, at(5, 5))
			if !slices.Equal(whole, before) {
				t.Errorf("R2: what Add of %v to %v told shares memory with what was handed in", a, was)
			}
			if three := claims.Add(l, a); !slices.Equal(two, want) || !slices.Equal(three, want) {
				t.Errorf("R2: what Add of %v to %v told shares memory with what comes out elsewhere", a, was)
			}
			spoil(whole, at(5, 5))
			if !slices.Equal(two, want) {
				t.Errorf("R2: what Add of %v to %v told is changed with what was handed in", a, was)
			}
		}
	}
}

// What comes out may be handed in again, and two that grow from one do not meet.
func TestRowsGrowApart(t *testing.T) {
	from := claims.Add(claims.Add(nil, at(1, 1)), at(2, 1))
	one, two := claims.Add(from, at(3, 1)), claims.Add(from, at(3, 2))
	if !slices.Equal(one, []api.Addr{at(1, 1), at(2, 1), at(3, 1)}) || !slices.Equal(two, []api.Addr{at(1, 1), at(2, 1), at(3, 2)}) || len(from) != 2 {
		t.Errorf("R2: rows that grow from one are %v and %v", one, two)
	}
	base, _ := claims.Record(made(5), claim(5, 900))
	a, _ := claims.Record(base, claim(5, 901))
	b, _ := claims.Record(base, claim(5, 902))
	if a[6] != claim(5, 901) || b[6] != claim(5, 902) || len(base) != 6 {
		t.Errorf("R2: claims that grow from some are %v and %v", a, b)
	}
}

// What is changed behind a call is told as it is then: nothing is kept.
func TestRowsAreNotKept(t *testing.T) {
	l, row := made(20), othersOf(3, 1)
	for i := range l {
		callAll(l, l[i], row, at(4, 1))
		l[i].Epoch++
		wantCheck(t, "changed claims", l)
		wantFind(t, l, l[i].Region, l[i].Epoch)
		wantRecord(t, l, changed(l[i], func(c *api.Claim) { c.Epoch-- }))
		wantRecord(t, l, l[i])
	}
	for i := range row {
		row[i] = at(1, 1)
		wantEnough(t, 3, 1, row)
		wantAdd(t, row, at(2, 1))
	}
}

// What a call answers hangs on its arguments, not on the calls ahead of it.
func TestCallsAnswerTheSameAgain(t *testing.T) {
	l := made(9)
	for range 2 {
		for _, other := range someClaims() {
			for _, row := range someRows() {
				callAll(other, claim(1, 1), row, at(2, 2))
				wantRecord(t, l, claim(3, 3))
				wantRecord(t, l, others(l[4])[0])
				wantAdd(t, []api.Addr{at(3, 3), at(1, 1)}, at(2, 2))
				wantEnough(t, 3, 1, othersOf(3, 1))
				wantEnough(t, 3, 1, []api.Addr{at(2, 1), at(2, 2), at(3, 1)})
			}
		}
	}
}

func TestCallsBesideOneAnother(t *testing.T) {
	l, row := made(40), othersOf(5, 2)
	var all sync.WaitGroup
	for range 8 {
		all.Go(func() {
			for n := range 41 {
				wantCheck(t, "beside others", l[:n])
				wantFind(t, l, 3, n)
				wantRecord(t, l[:n], claim(3, 1+n))
				wantAdd(t, row[:n%13], at(3, n%5))
				wantEnough(t, 5, 2, row[:n%13])
			}
		})
	}
	all.Wait()
}
