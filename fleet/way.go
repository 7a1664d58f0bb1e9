package fleet

import (
	"tiller/api"
	"tiller/net"
	"tiller/wire"
)

// mostComing is how many frames come in a round of Calm at most.
const mostComing = 2000

// again is behind how many ticks of its own clock a node sends once more what isn't known to have come.
const again = 4

// What nodes say to one another, beside Kind, From, To and Life:
//
//	Ask     the door to a worker   Req, Try; Num: Most; At: who goes on; Tokens: the prompt
//	Begin   a worker to a speaker  Req, Try; Num: Most; Epoch; At 0, Of; Tokens: the prompt; Text: the first part
//	Chunk   a worker to a speaker  Req, Try; Epoch; At, Of; Text: another part
//	Got     a speaker to a worker  Req, Try; At: which part
//	Done    a speaker to the door  Req, Try; Tokens: the answer
//	Thanks  the door to a speaker  Req, Try
//	Want    a worker to the door   Num: the want's; At: the place
//	Grant   the door to a worker   Num: the want's; At: the place; Epoch
//	Deny    the door to a worker   Num: the want's; At: the place
//	Let     a worker to the door   At: the place; Epoch
//
// No row of answers to answers is longer than Want, Grant, some parts, and Got of each: a round of Calm comes to its end by itself.

// member is what a node does: at its own ticks, and with what comes to it; it answers what it says.
type member interface {
	tick(now int) []wire.Msg
	take(now int, m wire.Msg) []wire.Msg
}

// member: what does node i do?
func (w *World) member(i int) member {
	if i == 0 {
		return w.door
	}
	if w.isWorker(i) {
		return w.workers[i-1]
	}
	return w.speakers[i-1-len(w.workers)]
}

// say: a node's messages go on their way; those for which the net has no room are lost.
func (w *World) say(from int, l []wire.Msg) {
	for _, m := range l {
		m.From, m.Life = from, w.nodes[from].life
		if frame, err := wire.Write(m); err == nil {
			w.net.Send(m.To, frame)
		}
	}
}

// come: a frame comes to its node; what was sent in a life that is over does nothing.
func (w *World) come(p net.Parcel) {
	m, err := wire.Read(p.Frame)
	if err != nil || m.Life < w.nodes[m.From].life {
		return
	}
	w.say(p.To, w.member(p.To).take(w.clocks.Now(p.To), m))
}

// Tick: a node's clock goes on, and the node, if it is up.
func (w *World) Tick(i int) api.Errno {
	if e := w.clocks.Tick(i); e != api.OK {
		return e
	}
	if w.nodes[i].up {
		w.say(i, w.member(i).tick(w.clocks.Now(i)))
	}
	return api.OK
}

// Deliver: a frame comes, and is gone (or, twice, stays).
func (w *World) Deliver(i int, twice bool) api.Errno {
	p, e := w.net.Look(i)
	if e != api.OK {
		return e
	}
	if !twice {
		w.net.Take(i)
	}
	if w.nodes[p.To].up {
		w.come(p)
	}
	return api.OK
}

// Lose, Move, Turn: what the net does to a frame.
func (w *World) Lose(i int) api.Errno {
	return w.net.Lose(i)
}

// Move: it stands last.
func (w *World) Move(i int) api.Errno {
	return w.net.Move(i)
}

// Turn: bits of it are turned.
func (w *World) Turn(i, at int, bits uint32) api.Errno {
	return w.net.Turn(i, at, bits)
}

// Way: how many frames are on their way.
func (w *World) Way() int {
	return w.net.Len()
}

// Calm: so many rounds without failures: all nodes are up, each ticks, and all that is on its way comes.
func (w *World) Calm(rounds int) {
	for range rounds {
		for i := range w.nodes {
			w.Start(i)
			w.Join(i)
			w.Tick(i)
		}
		for k := 0; k < mostComing && w.Deliver(0, false) == api.OK; k++ {
		}
	}
}
