package script

import (
	"slices"

	"tiller/api"
	"tiller/fleet"
	"tiller/router"
)

// mostRounds is of how many rounds one Calm is at most.
const mostRounds = 100

// player is a script as far as it has come in its fleet.
type player struct {
	world *fleet.World
	trace Trace
	open  []int // the requests that weren't seen to have ended, rising
}

// Play: a script in a new fleet.
func Play(s fleet.Setup, events []Event) (Trace, api.Errno) {
	world, e := fleet.New(s)
	if e != api.OK {
		return Trace{}, e
	}
	p := player{world: world}
	for at, x := range events {
		p.trace.Errors = append(p.trace.Errors, p.happen(at, x))
		p.look(at)
	}
	p.trace.Open = len(p.open)
	return p.trace, api.OK
}

// happen: an event happens; its error.
func (p *player) happen(at int, x Event) api.Errno {
	switch x.Kind {
	case Submit:
		return p.submit(at, x)
	case Tick, Crash, Start, Drain, Join:
		return p.onNode(x.Kind, among(x.I, p.world.Nodes()))
	case Deliver, Double, Lose, Move, Turn:
		return p.onFrame(x)
	case Lapse:
		p.world.Lapse()
		return api.OK
	case Calm:
		p.world.Calm(min(x.I, mostRounds))
		return api.OK
	}
	return api.ErrKind
}

// submit: a request comes; one that is refused leaves nothing but its error.
func (p *player) submit(at int, x Event) api.Errno {
	req, e := p.world.Submit(x.Prompt, x.Most)
	if e != api.OK {
		return e
	}
	p.trace.Asked = append(p.trace.Asked, Asked{Event: at, Prompt: slices.Clone(x.Prompt), Most: x.Most})
	p.open = append(p.open, req)
	return api.OK
}

// onNode: something happens to a node.
func (p *player) onNode(kind, node int) api.Errno {
	switch kind {
	case Tick:
		return p.world.Tick(node)
	case Crash:
		return p.world.Crash(node)
	case Start:
		return p.world.Start(node)
	case Drain:
		return p.world.Drain(node)
	}
	return p.world.Join(node)
}

// onFrame: something happens to a frame, if there is one.
func (p *player) onFrame(x Event) api.Errno {
	way := p.world.Way()
	if way == 0 {
		return api.ErrNone
	}
	place := among(x.I, way)
	switch x.Kind {
	case Deliver, Double:
		return p.world.Deliver(place, x.Kind == Double)
	case Lose:
		return p.world.Lose(place)
	case Move:
		return p.world.Move(place)
	}
	return p.world.Turn(place, x.At, x.Bits)
}

// among: any number, brought to 0 to n - 1.
func among(i, n int) int {
	return (i%n + n) % n
}

// look: which requests have ended by now? As entries are copies they are asked for only where there is something to be seen.
func (p *player) look(at int) {
	if _, open := p.world.Requests(); open == len(p.open) {
		return
	}
	var still []int
	for _, req := range p.open {
		x, _ := p.world.Entry(req)
		if x.End == router.Open {
			still = append(still, req)
			continue
		}
		p.trace.Ended = append(p.trace.Ended, Ended{Event: at, Req: req, End: x.End, Tokens: x.Answer})
	}
	p.open = still
}
