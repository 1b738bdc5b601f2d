package claims_test

import (
	"slices"
	"testing"

	"estreat/api"
	"estreat/claims"
)

// wantRecord holds Record against the words, and P12.4's first sentence with it.
func wantRecord(t *testing.T, l []api.Claim, c api.Claim) {
	t.Helper()
	want, err := withClaim(l, c)
	got, e := claims.Record(l, c)
	if e != err || !slices.Equal(got, want) || e != api.OK && got != nil {
		t.Errorf("P12.2: Record of %+v in %s is %s, %d; want %s, %d", c, brief(l), brief(got), e, brief(want), err)
	}
	if e != api.OK {
		return
	}
	if claims.Check(got) != api.OK {
		t.Errorf("P12.4: Record of %+v in %s is not right: %s", c, brief(l), brief(got))
	}
	for _, x := range append(slices.Clone(l), c) {
		if there, ok := claims.Find(got, x.Region, x.Epoch); there != x || !ok {
			t.Errorf("P12.4: Record of %+v in %s has not %+v", c, brief(l), x)
		}
	}
}

func TestRecordOfTheChapter(t *testing.T) {
	c := api.Claim{Region: 1, Epoch: 2, Node: 1}
	d := api.Claim{Region: 1, Epoch: 2, Node: 2}
	if l, e := claims.Record([]api.Claim{c}, c); !slices.Equal(l, []api.Claim{c}) || e != api.OK {
		t.Errorf("P12.2: Record(C, C) is %v, %d", l, e)
	}
	if l, e := claims.Record([]api.Claim{c}, d); l != nil || e != api.ErrClaimsOther {
		t.Errorf("P12.2: Record(C, D) is %v, %d", l, e)
	}
	for _, none := range [][]api.Claim{nil, {}} {
		if l, e := claims.Record(none, c); !slices.Equal(l, []api.Claim{c}) || e != api.OK {
			t.Errorf("P12.2: Record(none, C) is %v, %d", l, e)
		}
	}
}

func TestRecordOfClaimsThatAreThere(t *testing.T) {
	for _, n := range []int{1, 2, 3, 20, 200} {
		l := made(n)
		for i, c := range l {
			if got, e := claims.Record(l, c); !slices.Equal(got, l) || e != api.OK {
				t.Errorf("P12.2: Record of the claim at %d of %d is %s, %d", i, n, brief(got), e)
			}
		}
	}
}

func TestRecordOfOthersOfOneRegionAndEpoch(t *testing.T) {
	for _, n := range []int{1, 2, 3, 20} {
		l := made(n)
		for i, c := range l {
			for _, x := range others(c) {
				if got, e := claims.Record(l, x); got != nil || e != api.ErrClaimsOther {
					t.Errorf("P12.2: Record of %+v at %d of %d, where %+v is, is %s, %d", x, i, n, c, brief(got), e)
				}
			}
		}
	}
}

// Each place between two claims, ahead of all and behind all.
func TestRecordOfNewClaimsAtEachPlace(t *testing.T) {
	for _, n := range []int{0, 1, 2, 3, 20, 200} {
		l := made(n)
		for i := range n + 1 {
			c := claim(1, 1)
			if i > 0 {
				c = claim(l[i-1].Region, l[i-1].Epoch+1)
			}
			want := slices.Insert(slices.Clone(l), i, c)
			if got, e := claims.Record(l, c); !slices.Equal(got, want) || e != api.OK {
				t.Errorf("P12.2: Record of a claim for place %d of %d is %s, %d", i, n, brief(got), e)
			}
			wantRecord(t, l, c)
		}
	}
}

func TestRecordAtTheEdgesOfRegionsAndEpochs(t *testing.T) {
	l := []api.Claim{claim(2, 5), claim(2, 8), claim(4, 1), claim(4, 900000000)}
	for _, x := range []struct{ region, epoch, place int }{
		{1, 1, 0}, {1, 900000000, 0}, {2, 1, 0}, {2, 4, 0},
		{2, 6, 1}, {2, 7, 1},
		{2, 9, 2}, {2, 900000000, 2}, {3, 1, 2}, {3, 5, 2}, {3, 900000000, 2},
		{4, 2, 3}, {4, 899999999, 3},
		{5, 1, 4}, {5, 900000000, 4},
	} {
		c := claim(x.region, x.epoch)
		want := slices.Insert(slices.Clone(l), x.place, c)
		if got, e := claims.Record(l, c); !slices.Equal(got, want) || e != api.OK {
			t.Errorf("P12.2: Record of region %d, epoch %d is %s, %d", x.region, x.epoch, brief(got), e)
		}
	}
}

// One Node, Size and Root at two places are two claims.
func TestRecordLooksAtWholeClaims(t *testing.T) {
	a := api.Claim{Region: 1, Epoch: 1, Node: 1}
	for _, b := range []api.Claim{{Region: 1, Epoch: 2, Node: 1}, {Region: 2, Epoch: 1, Node: 1}} {
		wantRecord(t, []api.Claim{a}, b)
		wantRecord(t, []api.Claim{b}, a)
	}
	for _, c := range edgeClaims() {
		wantRecord(t, nil, c)
		wantRecord(t, made(20), c)
		for _, d := range edgeClaims() {
			wantRecord(t, []api.Claim{c}, d)
		}
	}
}

func TestRecordOfWrongClaims(t *testing.T) {
	for _, c := range wrongClaims() {
		for _, l := range [][]api.Claim{nil, {claim(1, 2)}, made(7), {c}, {claim(1, 2), c}} {
			if got, e := claims.Record(l, c); got != nil || e != api.ErrClaimsForm {
				t.Errorf("P12.2: Record of the wrong %+v is %s, %d", c, brief(got), e)
			}
		}
		for _, l := range [][]api.Claim{{c}, {c, claim(5, 800000000)}, {claim(1, 2), c}} {
			if got, e := claims.Record(l, claim(3, 3)); got != nil || e != api.ErrClaimsForm {
				t.Errorf("P12.2: Record in claims with the wrong %+v is %s, %d", c, brief(got), e)
			}
		}
	}
}

// Claims that are not right are told ahead of another one of c's place, and of c itself.
func TestRecordTellsTheFormFirst(t *testing.T) {
	c := claim(2, 5)
	x := others(c)[0]
	for why, l := range map[string][]api.Claim{
		"one twice":                  {c, c},
		"another twice":              {x, x},
		"two of one place":           {c, x},
		"two of one place, turned":   {x, c},
		"claims that fall":           {claim(3, 1), c},
		"claims that fall, another":  {x, claim(1, 1)},
		"a wrong one ahead":          {{}, c},
		"a wrong one behind":         {x, {Region: 6, Epoch: 1, Node: 1}},
		"claims that fall behind it": {c, claim(4, 2), claim(4, 1)},
	} {
		if got, e := claims.Record(l, c); got != nil || e != api.ErrClaimsForm {
			t.Errorf("P12.2: Record in %s is %v, %d; want ErrClaimsForm", why, got, e)
		}
	}
	// This is of c's Region and Epoch, and is not c.
	for _, wrong := range []api.Claim{changed(c, func(c *api.Claim) { c.Node = 4 }), changed(c, func(c *api.Claim) { c.Size = -1 })} {
		if got, e := claims.Record([]api.Claim{c}, wrong); got != nil || e != api.ErrClaimsForm {
			t.Errorf("P12.2: Record of a wrong claim where another is, is %v, %d", got, e)
		}
	}
}

// Every row of some places, and every claim of these and of some others.
func TestRecordOfAllSmallRows(t *testing.T) {
	var all []api.Claim
	for region := 1; region <= 3; region++ {
		for epoch := 1; epoch <= 3; epoch++ {
			all = append(all, claim(region, epoch))
		}
	}
	for mask := range 1 << len(all) {
		l := chosen(all, mask)
		wantCheck(t, "a right row", l)
		for _, c := range all {
			wantFind(t, l, c.Region, c.Epoch)
			wantRecord(t, l, c)
			wantRecord(t, l, others(c)[0])
		}
	}
}

// Claims that come one by one are the same row, in whatever order they come.
func TestRecordsInAnyOrder(t *testing.T) {
	want := made(53)
	for step := 1; step < 53; step++ {
		var l []api.Claim
		for i := range 53 {
			var e api.Errno
			if l, e = claims.Record(l, want[i*step%53]); e != api.OK || len(l) != i+1 || claims.Check(l) != api.OK {
				t.Fatalf("P12.4: Record of the claim that comes as number %d, at steps of %d, is %s, %d", i, step, brief(l), e)
			}
		}
		if !slices.Equal(l, want) {
			t.Errorf("P12.2: claims that come at steps of %d are %s", step, brief(l))
		}
	}
}

func TestRecordInManyClaims(t *testing.T) {
	l := make([]api.Claim, 0, 50000)
	for i := range 50000 {
		l = append(l, claim(1+i/10000, 2+2*i))
	}
	for _, i := range []int{0, 1, 9999, 10000, 25000, 49998, 49999} {
		c := claim(l[i].Region, l[i].Epoch+1)
		if got, e := claims.Record(l, c); !slices.Equal(got, slices.Insert(slices.Clone(l), i+1, c)) || e != api.OK {
			t.Errorf("P12.2: Record in 50000 claims, behind %d, is %d", i, e)
		}
		if got, e := claims.Record(l, l[i]); !slices.Equal(got, l) || e != api.OK {
			t.Errorf("P12.2: Record of one of 50000 claims, %d, is %d", i, e)
		}
		if got, e := claims.Record(l, others(l[i])[0]); got != nil || e != api.ErrClaimsOther {
			t.Errorf("P12.2: Record of another one of 50000 claims, %d, is %d", i, e)
		}
	}
}
