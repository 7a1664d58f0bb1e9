package router_test

import (
	"slices"

	"tiller/api"
	"tiller/greedy"
	"tiller/router"
)

// call is one call of a door that may change it.
type call struct {
	name     string
	now      int
	prompt   []int
	most     int
	req, try int
	tokens   []int
	node     int
}

// answer is what such a call answers; fields that it has not are zero.
type answer struct {
	order  router.Order
	orders []router.Order
	failed []int
	e      api.Errno
}

// ask calls a door.
func ask(r *router.Router, x call) answer {
	switch x.name {
	case "Submit":
		order, e := r.Submit(x.now, x.prompt, x.most)
		return answer{order: order, e: e}
	case "Tick":
		orders, failed := r.Tick(x.now)
		return answer{orders: orders, failed: failed}
	case "Done":
		return answer{e: r.Done(x.req, x.try, x.tokens)}
	case "Drain":
		return answer{e: r.Drain(x.node)}
	}
	return answer{e: r.Join(x.node)}
}

// alike tells whether two answers are the same.
func alike(a, b answer) bool {
	return a.order == b.order && slices.Equal(a.orders, b.orders) && slices.Equal(a.failed, b.failed) && a.e == b.e
}

// sameEntry tells whether two Entries are the same.
func sameEntry(a, b router.Entry) bool {
	return a.Order == b.Order && slices.Equal(a.Prompt, b.Prompt) && a.Most == b.Most && a.At == b.At && a.End == b.End && slices.Equal(a.Answer, b.Answer)
}

// row is a row of tokens for which a node is kept.
type row struct {
	tokens []int
	node   int
}

// book is a door as the chapter tells it, by lists.
type book struct {
	c       api.Config
	p       router.Plan
	entries []router.Entry
	drained []int
	rows    []row
	first   int // the turn of those that work on prompts
	second  int // the turn of the others
}

// newBook is a book of a door without requests.
func newBook(c api.Config, p router.Plan) *book {
	return &book{c: c, p: p, first: 1, second: p.Prefills + 1}
}

// open is how many requests are open.
func (k *book) open() int {
	n := 0
	for _, x := range k.entries {
		if x.End == 0 {
			n++
		}
	}
	return n
}

// next is the next in turn of the nodes from a to b, and where the turn stands then; 0, and where it stood, if all are drained.
func (k *book) next(turn, a, b int) (int, int) {
	around := []int{}
	for i := turn; i <= b; i++ {
		around = append(around, i)
	}
	for i := a; i < turn; i++ {
		around = append(around, i)
	}
	for _, i := range around {
		if !slices.Contains(k.drained, i) && i == b {
			return i, a
		} else if !slices.Contains(k.drained, i) {
			return i, i + 1
		}
	}
	return 0, turn
}

// longest is the node that is kept for the longest row that a prompt begins with; 0: there is none.
func (k *book) longest(prompt []int) int {
	length, node := 0, 0
	for _, x := range k.rows {
		if l := len(x.tokens); l > length && l <= len(prompt) && slices.Equal(x.tokens, prompt[:l]) {
			length, node = l, x.node
		}
	}
	return node
}

// keep has a node kept for a prompt; of 1000 rows no more are there.
func (k *book) keep(prompt []int, node int) {
	for i, x := range k.rows {
		if slices.Equal(x.tokens, prompt) {
			k.rows[i].node = node
			return
		}
	}
	if len(k.rows) < 1000 {
		k.rows = append(k.rows, row{slices.Clone(prompt), node})
	}
}

// place names the nodes of a try.
func (k *book) place(prompt []int, first bool) (int, int) {
	prefill, decode := 0, 0
	if first {
		prefill = k.longest(prompt)
	}
	if prefill == 0 || slices.Contains(k.drained, prefill) {
		prefill, k.first = k.next(k.first, 1, k.p.Prefills)
	}
	decode, k.second = k.next(k.second, k.p.Prefills+1, k.p.Prefills+k.p.Decodes)
	if prefill == 0 || decode == 0 {
		return 0, 0
	}
	k.keep(prompt, prefill)
	return prefill, decode
}

// submit is Submit of the book.
func (k *book) submit(x call) answer {
	if x.now < 0 || x.now > 1<<40 {
		return answer{e: api.ErrArg}
	}
	if e := greedy.Asked(k.c, x.prompt, x.most); e != api.OK {
		return answer{e: e}
	}
	if k.open() == k.p.Table {
		return answer{e: api.ErrFull}
	}
	prefill, decode := k.place(x.prompt, true)
	if prefill == 0 {
		return answer{e: api.ErrDown}
	}
	o := router.Order{Req: len(k.entries), Prefill: prefill, Decode: decode}
	k.entries = append(k.entries, router.Entry{Order: o, Prompt: slices.Clone(x.prompt), Most: x.most, At: x.now})
	return answer{order: o}
}

// due tells whether a request was tried last at least Wait ahead of now, without a sum that an int doesn't hold.
func (k *book) due(at, now int) bool {
	return now >= at && uint(now)-uint(at) >= uint(k.p.Wait)
}

// tick is Tick of the book.
func (k *book) tick(now int) answer {
	var a answer
	for i := range k.entries {
		x := &k.entries[i]
		if x.End != 0 || !k.due(x.At, now) {
			continue
		}
		if x.Order.Try == k.p.Tries-1 {
			x.End = 2
			a.failed = append(a.failed, i)
			continue
		}
		prefill, decode := k.place(x.Prompt, false)
		x.Order, x.At = router.Order{Req: i, Try: x.Order.Try + 1, Prefill: prefill, Decode: decode}, now
		if prefill != 0 {
			a.orders = append(a.orders, x.Order)
		}
	}
	return a
}

// done is Done of the book.
func (k *book) done(x call) answer {
	if x.req < 0 || x.req >= len(k.entries) {
		return answer{e: api.ErrNone}
	}
	n := &k.entries[x.req]
	if n.End != 0 {
		return answer{e: api.ErrThere}
	}
	if x.try < 0 || x.try > n.Order.Try {
		return answer{e: api.ErrArg}
	}
	n.End, n.Answer = 1, slices.Clone(x.tokens)
	return answer{}
}

// ask calls the book.
func (k *book) ask(x call) answer {
	switch x.name {
	case "Submit":
		return k.submit(x)
	case "Tick":
		return k.tick(x.now)
	case "Done":
		return k.done(x)
	}
	if x.node < 1 || x.node > k.p.Prefills+k.p.Decodes {
		return answer{e: api.ErrNone}
	}
	k.drained = slices.DeleteFunc(k.drained, func(i int) bool { return i == x.node })
	if x.name == "Drain" {
		k.drained = append(k.drained, x.node)
		k.rows = slices.DeleteFunc(k.rows, func(r row) bool { return r.node == x.node })
	}
	return answer{}
}
