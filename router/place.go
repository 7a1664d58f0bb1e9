package router

import (
	"tiller/api"
)

// nobody stands where there is no node to be named: it is the door's own number.
const nobody = 0

// turn goes round some nodes: the next one is at so many places behind the first one.
type turn struct {
	first, count int
	at           int
}

// next: the first one from there on that isn't drained, behind which the turn stands then; nobody, if all are, and it stands where it stood.
func (t *turn) next(drained [api.MaxNodes]bool) int {
	for k := range t.count {
		place := (t.at + k) % t.count
		if node := t.first + place; !drained[node] {
			t.at = (place + 1) % t.count
			return node
		}
	}
	return nobody
}

// place: an order with who works on its prompt and who goes on; false: there aren't both, and it names neither.
func (r *Router) place(o Order, prompt []int) (Order, bool) {
	prefill := nobody
	if o.Try == 0 {
		_, prefill = r.kept.Longest(prompt) // a drained node is kept for no row
	}
	if prefill == nobody {
		prefill = r.prefills.next(r.drained)
	}
	decode := r.decodes.next(r.drained)
	if prefill == nobody || decode == nobody {
		return o, false
	}
	r.kept.Put(prompt, prefill) // of more rows than the trie takes the later ones aren't kept
	o.Prefill, o.Decode = prefill, decode
	return o, true
}

// isNode: is there such a node, beside the door?
func (r *Router) isNode(node int) bool {
	return node >= 1 && node <= r.plan.Prefills+r.plan.Decodes
}

// Drain: a node isn't given anything any more.
func (r *Router) Drain(node int) api.Errno {
	if !r.isNode(node) {
		return api.ErrNone
	}
	r.drained[node] = true
	r.kept.DropValue(node)
	return api.OK
}

// Join: a node is given requests again.
func (r *Router) Join(node int) api.Errno {
	if !r.isNode(node) {
		return api.ErrNone
	}
	r.drained[node] = false
	return api.OK
}
