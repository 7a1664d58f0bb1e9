package fleet

import (
	"slices"

	"tiller/api"
	"tiller/holder"
	"tiller/model"
	"tiller/prefill"
	"tiller/send"
	"tiller/wire"
)

// window is how many parts a worker sends to a node at once, at most: all of them together leave room in the net for others.
const window = 16

// worker is a node that works on prompts, and hands out what is kept of them.
type worker struct {
	node        *prefill.Node
	plan        holder.Plan
	part        int // bytes of a part
	lasts       int // ticks behind which a transfer is old: no request is open for longer
	first, last int // the nodes that go on
	leases      holder.State
	transfers   []transfer // the oldest first
}

// transfer is a text on its way to who goes on.
type transfer struct {
	job   prefill.Job
	text  send.State
	since int
	due   int // when parts go next
	life  int // the receiver's, in which it got what is known to have come
}

// newWorker: a worker without jobs, in a life of its own.
func newWorker(s Setup, weights model.Weights, life int) *worker {
	n, _ := prefill.New(s.Model, weights, prefill.Plan{Page: s.Page, Pages: s.Pages, Rate: s.Rate, Queue: s.Queue})
	return &worker{
		node: n, plan: holder.Plan{Term: s.Term, Margin: s.Margin}, part: s.Part, lasts: lasts(s),
		first: s.Door.Prefills + 1, last: s.Door.Prefills + s.Door.Decodes,
		leases: holder.State{Life: life},
	}
}

// lasts: for how many ticks a request is open at most, by the door's clock.
func lasts(s Setup) int {
	return s.Door.Tries * s.Door.Wait
}

// believes: the epoch by which it may write to a node; false: it may not.
func (k *worker) believes(now, place int) (int, bool) {
	return holder.Believes(k.leases, now, place)
}

// tick: the first job goes on, and so does what is handed out.
func (k *worker) tick(now int) []wire.Msg {
	if out, done := k.node.Tick(); done {
		k.begin(now, out)
	}
	k.transfers = slices.DeleteFunc(k.transfers, func(t transfer) bool { return now-t.since >= k.lasts })
	var l []wire.Msg
	for place := k.first; place <= k.last; place++ {
		l = append(l, k.goOn(now, place)...)
	}
	return l
}

// begin: what is kept of a prompt is handed out. A text of more parts than there may be goes as an empty one: who goes on works on the prompt by itself then.
func (k *worker) begin(now int, out prefill.Out) {
	text, e := send.Begin(out.Job.Req, out.Text, k.part)
	if e != api.OK {
		text, _ = send.Begin(out.Job.Req, "", k.part)
	}
	k.transfers = append(k.transfers, transfer{job: out.Job, text: text, since: now, due: now})
}

// find: where the transfer of a request's try stands; -1: there is none.
func (k *worker) find(req, try int) int {
	return slices.IndexFunc(k.transfers, func(t transfer) bool { return t.job.Req == req && t.job.Try == try })
}

// goOn: what is said for the sake of a place: parts, as long as the worker believes in it; else it is wanted, as long as there are transfers to it. What is had and of no use any more is given back ahead of wanting it anew, so that others have their turn.
func (k *worker) goOn(now, place int) []wire.Msg {
	needed := slices.ContainsFunc(k.transfers, func(t transfer) bool { return t.job.To == place })
	epoch, may := k.believes(now, place)
	_, had := k.leases.Has[place]
	switch {
	case needed && may:
		return k.parts(now, place, epoch)
	case had:
		return k.let(place)
	case needed:
		return k.want(now, place)
	}
	return nil
}

// parts: parts that aren't known to have come go to a node.
func (k *worker) parts(now, place, epoch int) []wire.Msg {
	var l []wire.Msg
	for i := range k.transfers {
		t := &k.transfers[i]
		if t.job.To != place || now < t.due || len(l) == window {
			continue
		}
		for _, p := range send.Next(t.text, window-len(l)) {
			l = append(l, t.message(p, epoch))
		}
		t.due = now + again
	}
	return l
}

// message: a part, as it is sent; the first one brings the request along.
func (t *transfer) message(p send.Part, epoch int) wire.Msg {
	m := wire.Msg{Kind: wire.Chunk, To: t.job.To, Req: t.job.Req, Try: t.job.Try, Epoch: epoch, At: p.At, Of: p.Of, Text: p.Text}
	if p.At == 0 {
		m.Kind, m.Num, m.Tokens = wire.Begin, t.job.Most, t.job.Prompt
	}
	return m
}

// let: a place is given back.
func (k *worker) let(place int) []wire.Msg {
	leases, epoch, _ := holder.Let(k.leases, place)
	k.leases = leases
	return []wire.Msg{{Kind: wire.Let, Epoch: epoch, At: place}}
}

// want: a place is wanted. A want that is open is sent again, as long as its grant would be of use.
func (k *worker) want(now, place int) []wire.Msg {
	want, open := k.leases.Wants[place]
	num := want.Num
	if !open || now >= want.At+k.plan.Term-k.plan.Margin {
		leases, asked, e := holder.Ask(k.leases, now, place)
		if e != api.OK {
			return nil
		}
		k.leases, num = leases, asked
	} else if (now-want.At)%again != 0 {
		return nil
	}
	return []wire.Msg{{Kind: wire.Want, Num: num, At: place}}
}

// take: a message comes.
func (k *worker) take(now int, m wire.Msg) []wire.Msg {
	switch m.Kind {
	case wire.Ask:
		k.ask(m)
	case wire.Got:
		k.got(now, m)
	case wire.Grant:
		return k.granted(now, m)
	case wire.Deny:
		k.leases, _ = holder.Denied(k.leases, m.At, m.Num) // it is asked anew at the next tick
	}
	return nil
}

// ask: a job more, unless it is being handed out already; one for which there is no room is tried anew by the door.
func (k *worker) ask(m wire.Msg) {
	if k.find(m.Req, m.Try) < 0 {
		k.node.Ask(prefill.Job{Req: m.Req, Try: m.Try, To: m.At, Prompt: m.Tokens, Most: m.Num})
	}
}

// granted: a want was granted. Parts go at once: by the next tick the lease may be over.
func (k *worker) granted(now int, m wire.Msg) []wire.Msg {
	leases, e := holder.Granted(k.leases, now, k.plan, m.At, m.Num, m.Epoch)
	k.leases = leases
	if e != api.OK {
		return nil
	}
	return k.parts(now, m.At, m.Epoch)
}

// got: a part came. What came to an elder life of who got it is gone.
func (k *worker) got(now int, m wire.Msg) {
	i := k.find(m.Req, m.Try)
	if i < 0 {
		return
	}
	t := &k.transfers[i]
	if t.life != m.Life {
		t.life, t.text.Came = m.Life, nil
	}
	t.text, _ = send.Got(t.text, t.text.Num, m.At)
	t.due = now
	k.transfers = slices.DeleteFunc(k.transfers, func(t transfer) bool { return send.Over(t.text) })
}
