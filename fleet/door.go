package fleet

import (
	"tiller/api"
	"tiller/lease"
	"tiller/router"
	"tiller/wire"
)

// door is node 0: the front door, and the authority of leases.
type door struct {
	router *router.Router
	leases lease.State
	term   int
}

// newDoor: a door without requests, whose authority has granted nothing.
func newDoor(s Setup) *door {
	r, _ := router.New(s.Model, s.Door)
	return &door{router: r, term: s.Term}
}

// asks: orders, as they go to those who work on the prompts.
func (d *door) asks(orders []router.Order) []wire.Msg {
	var l []wire.Msg
	for _, o := range orders {
		x, _ := d.router.Get(o.Req)
		l = append(l, wire.Msg{Kind: wire.Ask, To: o.Prefill, Req: o.Req, Try: o.Try, Num: x.Most, At: o.Decode, Tokens: x.Prompt})
	}
	return l
}

// tick: what is due is tried anew. An order that is lost isn't sent again: this is what makes up for it.
func (d *door) tick(now int) []wire.Msg {
	orders, _ := d.router.Tick(now)
	return d.asks(orders)
}

// take: a message comes.
func (d *door) take(now int, m wire.Msg) []wire.Msg {
	switch m.Kind {
	case wire.Want:
		return d.grant(now, m)
	case wire.Let:
		d.leases, _ = lease.Let(d.leases, now, m.At, m.From, m.Epoch) // one that is over already changes nothing
	case wire.Done:
		d.router.Done(m.Req, m.Try, m.Tokens) // of a request that has ended it counts no more, but is thanked for, lest it come for ever
		return []wire.Msg{{Kind: wire.Thanks, To: m.From, Req: m.Req, Try: m.Try}}
	}
	return nil
}

// grant: a place is granted to who wants it, or isn't.
func (d *door) grant(now int, m wire.Msg) []wire.Msg {
	leases, epoch, e := lease.Grant(d.leases, now, d.term, m.At, m.From)
	d.leases = leases
	kind := wire.Grant
	if e != api.OK {
		kind = wire.Deny
	}
	return []wire.Msg{{Kind: kind, To: m.From, Num: m.Num, Epoch: epoch, At: m.At}}
}

// lapse: the authority knows nothing any more but the last epoch, and is quiet until all that it granted is over.
func (d *door) lapse(now int) {
	d.leases = lease.Restart(d.leases, now, d.term)
}
