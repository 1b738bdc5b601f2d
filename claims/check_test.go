package claims_test

import (
	"slices"
	"testing"

	"estreat/api"
	"estreat/claims"
)

func wantCheck(t *testing.T, why string, l []api.Claim) {
	t.Helper()
	want := api.ErrClaimsForm
	if claimsAreRight(l) {
		want = api.OK
	}
	if e := claims.Check(l); e != want {
		t.Errorf("P12.1: Check of %s, %s, is %d; want %d", why, brief(l), e, want)
	}
}

func wantFind(t *testing.T, l []api.Claim, region, epoch int) {
	t.Helper()
	want, there := found(l, region, epoch)
	if c, ok := claims.Find(l, region, epoch); c != want || ok != there {
		t.Errorf("P12.1: Find of region %d, epoch %d in %s is %+v, %v; want %+v, %v", region, epoch, brief(l), c, ok, want, there)
	}
}

func TestCheckOfClaimsThatRise(t *testing.T) {
	for why, l := range map[string][]api.Claim{
		"no claims":                      nil,
		"no claims, and not nil":         {},
		"one":                            {claim(1, 1)},
		"two Epochs":                     {claim(1, 1), claim(1, 2)},
		"two Regions":                    {claim(1, 1), claim(2, 1)},
		"a lesser Epoch of the next":     {claim(1, 9), claim(2, 1)},
		"a Region left out":              {claim(1, 9), claim(5, 9)},
		"Epochs left out":                {claim(3, 1), claim(3, 900000000)},
		"the least and the greatest":     {edgeClaims()[0], edgeClaims()[1]},
		"two of one Node, Size and Root": {{Region: 1, Epoch: 1, Node: 1}, {Region: 1, Epoch: 2, Node: 1}},
		"Node, Size and Root that fall":  {{Region: 1, Epoch: 1, Node: 3, Size: 9, Root: rising(9)}, {Region: 1, Epoch: 2, Node: 1}},
		"each Region, some Epochs":       made(20),
		"many":                           made(3000),
	} {
		if e := claims.Check(l); e != api.OK {
			t.Errorf("P12.1: Check of %s is %d; want OK", why, e)
		}
	}
}

func TestCheckOfClaimsThatDoNotRise(t *testing.T) {
	c := claim(2, 5)
	for why, l := range map[string][]api.Claim{
		"one twice":                                 {c, c},
		"one twice, others ahead":                   {claim(1, 1), c, c},
		"one twice, apart":                          {c, claim(2, 6), c},
		"one of another Node":                       {c, others(c)[0]},
		"Epochs that fall":                          {c, claim(2, 4)},
		"Regions that fall":                         {c, claim(1, 5)},
		"Regions that fall, though the Epochs rise": {c, claim(1, 6)},
		"Epochs that fall at the end":               append(made(20), claim(5, 2)),
		"the greatest and the least":                {edgeClaims()[1], edgeClaims()[0]},
	} {
		if e := claims.Check(l); e != api.ErrClaimsForm {
			t.Errorf("P12.1: Check of %s is %d; want ErrClaimsForm", why, e)
		}
	}
	for _, x := range others(c) {
		wantCheck(t, "two of one Region and Epoch", []api.Claim{c, x})
		wantCheck(t, "two of one Region and Epoch", []api.Claim{x, c})
	}
}

func TestCheckOfClaimsOfWhichOneIsNotRight(t *testing.T) {
	for _, c := range append(edgeClaims(), claim(3, 258)) {
		if e := claims.Check([]api.Claim{c}); e != api.OK {
			t.Errorf("P12.1: Check of %+v alone is %d", c, e)
		}
	}
	for _, c := range wrongClaims() {
		for _, l := range [][]api.Claim{{c}, {c, claim(5, 800000000)}, {claim(1, 2), c}, {claim(1, 2), c, claim(5, 800000000)}} {
			if e := claims.Check(l); e != api.ErrClaimsForm {
				t.Errorf("P12.1: Check of %+v, with the wrong %+v, is %d", l, c, e)
			}
		}
	}
}

// Any two, and any three, of some places.
func TestCheckOfAllSmallRows(t *testing.T) {
	var all []api.Claim
	for region := 1; region <= 3; region++ {
		for epoch := 1; epoch <= 3; epoch++ {
			all = append(all, claim(region, epoch))
		}
	}
	all = append(all, others(claim(2, 2))[0], api.Claim{})
	for _, a := range all {
		wantCheck(t, "one", []api.Claim{a})
		for _, b := range all {
			wantCheck(t, "two", []api.Claim{a, b})
			for _, c := range all {
				wantCheck(t, "three", []api.Claim{a, b, c})
			}
		}
	}
}

// Each two neighbours that change places, and each claim that stands there twice, make a right row wrong.
func TestCheckLooksAtEveryPlace(t *testing.T) {
	l := made(40)
	for i := range l {
		wantCheck(t, "one twice", slices.Insert(slices.Clone(l), i, l[i]))
		wrong := slices.Clone(l)
		wrong[i].Node = 4
		wantCheck(t, "a wrong one", wrong)
		if i > 0 {
			other := slices.Clone(l)
			other[i], other[i-1] = other[i-1], other[i]
			if e := claims.Check(other); e != api.ErrClaimsForm {
				t.Errorf("P12.1: Check of claims that fall at %d is %d", i, e)
			}
		}
	}
}

func TestFindOfClaimsThatAreThereAndNot(t *testing.T) {
	for _, n := range []int{0, 1, 2, 3, 20, 300} {
		l := made(n)
		for i, c := range l {
			if got, ok := claims.Find(l, c.Region, c.Epoch); got != c || !ok {
				t.Errorf("P12.1: Find of the claim at %d of %d is %+v, %v", i, n, got, ok)
			}
			for _, epoch := range []int{c.Epoch - 1, c.Epoch + 1, -c.Epoch, c.Epoch + 1<<32} {
				if got, ok := claims.Find(l, c.Region, epoch); got != (api.Claim{}) || ok {
					t.Errorf("P12.1: Find of an Epoch that is not there is %+v, %v", got, ok)
				}
			}
			for _, region := range []int{c.Region - 1, c.Region + 1, 6, -c.Region, c.Region + 1<<32} {
				if got, ok := claims.Find(l, region, c.Epoch); got != (api.Claim{}) || ok {
					t.Errorf("P12.1: Find of a Region that is not there is %+v, %v", got, ok)
				}
			}
		}
		wantFind(t, l, 0, 0)
		wantFind(t, l, 1, 1)
	}
}

// Find tells of any list, right or not: the first one, whatever else there is.
func TestFindTellsTheFirstOne(t *testing.T) {
	c := claim(2, 5)
	for _, x := range others(c) {
		for _, l := range [][]api.Claim{{c, x}, {x, c}, {claim(4, 5), x, c}, {claim(2, 6), claim(1, 5), c, claim(1, 1), x}} {
			wantFind(t, l, 2, 5)
		}
	}
	if got, ok := claims.Find([]api.Claim{claim(5, 9), claim(2, 9), c, claim(1, 1)}, 1, 1); got != claim(1, 1) || !ok {
		t.Errorf("P12.1: Find in claims that fall is %+v, %v", got, ok)
	}
	for _, x := range wrongClaims() {
		l := []api.Claim{claim(3, 3), x, changed(x, func(c *api.Claim) { c.Size++ })}
		if got, ok := claims.Find(l, x.Region, x.Epoch); got != x || !ok {
			t.Errorf("P12.1: Find of %+v, which is not right, is %+v, %v", x, got, ok)
		}
	}
}

// A claim of zeros that is there is told with true.
func TestFindOfAZeroClaim(t *testing.T) {
	if c, ok := claims.Find([]api.Claim{claim(1, 1), {}}, 0, 0); c != (api.Claim{}) || !ok {
		t.Errorf("P12.1: Find of a zero claim that is there is %+v, %v", c, ok)
	}
	if c, ok := claims.Find([]api.Claim{claim(1, 1)}, 0, 0); c != (api.Claim{}) || ok {
		t.Errorf("P12.1: Find of a zero claim that is not there is %+v, %v", c, ok)
	}
}
