package keep_test

import (
	"slices"

	"estreat/api"
)

// The chapters' words, in their own numbers.

func itemIsRight(x api.Item) bool {
	e := x.Entry
	noUser := e.Client == 0 && e.Seq == 0 && e.Text == ""
	noHead := e.Head == api.Signed{}
	noClaim := e.Claim == api.Claim{}
	if x.Epoch < 1 || x.Epoch > 900000000 {
		return false
	}
	if e.Kind == 1 {
		return e.Client >= 1 && e.Client <= 3 && e.Seq >= 1 && e.Seq <= 1000000 && len(e.Text) <= 200 && noHead && noClaim
	}
	if e.Kind == 2 {
		return noUser && noClaim && headIsRight(e.Head.Head) && e.Head.Node >= 1 && e.Head.Node <= 3
	}
	return e.Kind == 3 && noUser && noHead && claimIsRight(e.Claim)
}

func headIsRight(h api.Head) bool {
	return h.Region >= 1 && h.Region <= 5 && h.Epoch >= 1 && h.Epoch <= 900000000 && h.Size >= 0 && h.Size <= 100000 && h.Tick >= 0 && h.Tick <= 900000000
}

func claimIsRight(c api.Claim) bool {
	return c.Region >= 1 && c.Region <= 5 && c.Epoch >= 1 && c.Epoch <= 900000000 && c.Node >= 1 && c.Node <= 3 && c.Size >= 0 && c.Size <= 100000
}

func logIsRight(l []api.Item) bool {
	falls := false
	wrong := false
	for i, x := range l {
		falls = falls || i > 0 && l[i-1].Epoch > x.Epoch
		wrong = wrong || !itemIsRight(x)
	}
	return len(l) <= 2000 && !wrong && !falls
}

func claimsAreRight(l []api.Claim) bool {
	for i, c := range l {
		if !claimIsRight(c) {
			return false
		}
		if i > 0 && (c.Region < l[i-1].Region || c.Region == l[i-1].Region && c.Epoch <= l[i-1].Epoch) {
			return false
		}
	}
	return true
}

// leaderOf is what Leader is to answer: 0 just of what is not right.
func leaderOf(k api.Kept) int {
	if k.Epoch < 1 || k.Epoch > 900000000 || k.Log < 1 || k.Log > k.Epoch || !logIsRight(k.Items) || !claimsAreRight(k.Claims) {
		return 0
	}
	for _, x := range k.Items {
		if x.Epoch > k.Log {
			return 0
		}
	}
	if k.Log == 1 {
		return 1
	}
	for _, x := range k.Items {
		if c := x.Entry.Claim; x.Epoch == k.Log && x.Entry.Kind == 3 && c.Epoch == k.Log {
			return c.Node
		}
	}
	return 0
}

func recordMayBe(r api.Record) bool {
	noEpoch, noFrom, noItem, noItems, noClaim := r.Epoch == 0, r.From == 0, r.Item == api.Item{}, len(r.Items) == 0, r.Claim == api.Claim{}
	isEpoch := r.Epoch >= 1 && r.Epoch <= 900000000
	switch r.Kind {
	case 1:
		return isEpoch && noFrom && noItem && noItems && noClaim
	case 2:
		return noEpoch && noFrom && itemIsRight(r.Item) && noItems && noClaim
	case 3:
		return isEpoch && r.From >= 0 && r.From <= 2000 && noItem && logIsRight(r.Items) && noClaim
	case 4:
		return noEpoch && noFrom && noItem && noItems && claimIsRight(r.Claim)
	}
	return false
}

// mayCome is chapter 11's May, of a log and an item that are right.
func mayCome(l []api.Item, x api.Item) bool {
	for _, y := range l {
		old := x.Entry.Kind == 1 && y.Entry.Kind == 1 && y.Entry.Client == x.Entry.Client && y.Entry.Seq >= x.Entry.Seq
		if old || y.Epoch > x.Epoch {
			return false
		}
	}
	return len(l) < 2000
}

// withClaim is chapter 12's Record, of claims that are right.
func withClaim(l []api.Claim, c api.Claim) ([]api.Claim, bool) {
	var out, later []api.Claim
	for _, x := range l {
		if x.Region == c.Region && x.Epoch == c.Epoch {
			return l, x == c
		}
		if x.Region < c.Region || x.Region == c.Region && x.Epoch < c.Epoch {
			out = append(out, x)
		} else {
			later = append(later, x)
		}
	}
	return slices.Concat(out, []api.Claim{c}, later), true
}

// folded is what Fold is to answer.
func folded(k api.Kept, r api.Record) (api.Kept, api.Errno) {
	if leaderOf(k) == 0 {
		return api.Kept{}, 1
	}
	if !recordMayBe(r) {
		return api.Kept{}, 140
	}
	ok := true
	switch r.Kind {
	case 1:
		ok = r.Epoch >= k.Epoch
		k.Epoch = r.Epoch
	case 2:
		ok = r.Item.Epoch == k.Log && mayCome(k.Items, r.Item)
		k.Items = behind(k.Items, r.Item)
	case 3:
		if r.Epoch < k.Epoch {
			return api.Kept{}, 140
		}
		if r.From > len(k.Items) {
			return api.Kept{}, 141
		}
		k = api.Kept{Epoch: r.Epoch, Log: r.Epoch, Items: behind(k.Items[:r.From], r.Items...), Claims: k.Claims}
		ok = leaderOf(k) != 0
	case 4:
		k.Claims, ok = withClaim(k.Claims, r.Claim)
	}
	if !ok {
		return api.Kept{}, 140
	}
	return k, 0
}
