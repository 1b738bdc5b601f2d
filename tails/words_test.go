package tails_test

import (
	"crypto/sha256"

	"estreat/api"
	"estreat/entry"
)

// The chapters' words, in their own numbers.

func itemIsRight(x api.Item) bool {
	e := x.Entry
	noUser := e.Client == 0 && e.Seq == 0 && e.Text == ""
	noHead := e.Head == api.Signed{}
	noClaim := e.Claim == api.Claim{}
	if x.Epoch < 1 || x.Epoch > 900000000 {
		return false
	}
	if e.Kind == 1 {
		return e.Client >= 1 && e.Client <= 3 && e.Seq >= 1 && e.Seq <= 1000000 && len(e.Text) <= 200 && noHead && noClaim
	}
	if e.Kind == 2 {
		return noUser && noClaim && headIsRight(e.Head.Head) && e.Head.Node >= 1 && e.Head.Node <= 3
	}
	return e.Kind == 3 && noUser && noHead && claimIsRight(e.Claim)
}

func headIsRight(h api.Head) bool {
	return h.Region >= 1 && h.Region <= 5 && h.Epoch >= 1 && h.Epoch <= 900000000 && h.Size >= 0 && h.Size <= 100000 && h.Tick >= 0 && h.Tick <= 900000000
}

func claimIsRight(c api.Claim) bool {
	return c.Region >= 1 && c.Region <= 5 && c.Epoch >= 1 && c.Epoch <= 900000000 && c.Node >= 1 && c.Node <= 3 && c.Size >= 0 && c.Size <= 100000
}

func tailIsRight(t api.Tail) bool {
	n := len(t.Items)
	if t.Node < 1 || t.Node > 3 || t.Log < 1 || t.Log > 900000000 || t.Commit < 0 || t.Commit > n || n > 2000 {
		return false
	}
	led := t.Log == 1
	for i, x := range t.Items {
		if !itemIsRight(x) || x.Epoch > t.Log || i > 0 && x.Epoch < t.Items[i-1].Epoch {
			return false
		}
		led = led || x.Epoch == t.Log && x.Entry.Kind == 3 && x.Entry.Claim.Epoch == t.Log
	}
	return led
}

// added is what Add is to answer; it may share memory with what is handed in.
func added(l []api.Tail, t api.Tail) []api.Tail {
	var out []api.Tail
	laid := false
	for _, x := range l {
		if x.Node == t.Node {
			continue
		}
		if x.Node > t.Node && !laid {
			out = append(out, t)
			laid = true
		}
		out = append(out, x)
	}
	if !laid {
		out = append(out, t)
	}
	return out
}

// chosen is what Choose is to answer; it may share memory with what is handed in.
func chosen(l []api.Tail) (api.Tail, int, bool) {
	var there [4]int
	for _, t := range l {
		if t.Node == 1 || t.Node == 2 || t.Node == 3 {
			there[t.Node] = 1
		}
	}
	if there[1]+there[2]+there[3] < 2 {
		return api.Tail{}, 0, false
	}
	best, commit := l[0], l[0].Commit
	for _, t := range l {
		if t.Log > best.Log || t.Log == best.Log && len(t.Items) > len(best.Items) {
			best = t
		}
		if t.Commit > commit {
			commit = t.Commit
		}
	}
	if commit > len(best.Items) {
		commit = len(best.Items)
	}
	return best, commit, true
}

// claimOf is what Claim is to answer.
func claimOf(region, epoch, node int, t api.Tail) (api.Claim, api.Errno) {
	if !tailIsRight(t) || region < 1 || region > 5 || epoch < 1 || epoch > 900000000 || node < 1 || node > 3 {
		return api.Claim{}, 150
	}
	return api.Claim{Region: region, Epoch: epoch, Node: node, Size: len(t.Items), Root: rootOf(t.Items)}, 0
}

// rootOf is chapter 3's, with the library's own sums.
func rootOf(l []api.Item) api.Digest {
	switch len(l) {
	case 0:
		return sha256.Sum256(nil)
	case 1:
		b, _ := entry.PutItem(l[0])
		return sha256.Sum256(append([]byte{0}, b...))
	}
	half := 1
	for half*2 < len(l) {
		half *= 2
	}
	left, right := rootOf(l[:half]), rootOf(l[half:])
	return sha256.Sum256(append(append([]byte{1}, left[:]...), right[:]...))
}

// openedBy is what Open is to answer.
func openedBy(t api.Tail, c api.Claim) []api.Item {
	return behind(t.Items, api.Item{Epoch: c.Epoch, Entry: api.Entry{Kind: 3, Claim: c}})
}
