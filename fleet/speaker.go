package fleet

import (
	"slices"

	"tiller/api"
	"tiller/decode"
	"tiller/model"
	"tiller/recv"
	"tiller/send"
	"tiller/wire"
)

// state is how far a request has come at who goes on behind its prompt.
type state int

const (
	coming   state = iota // its parts come
	running               // it is a task of the node's
	answered              // its answer goes to the door, until that thanks for it
)

// work is a request at who goes on, from its first part on until its answer is thanked for.
type work struct {
	req, try int
	state    state
	parts    recv.State
	since    int
	prompt   []int // known with the first part
	most     int
	answer   []int
	due      int // when the answer goes next
}

// speaker is a node that goes on behind prompts.
type speaker struct {
	node  *decode.Node
	pages int
	lasts int // ticks behind which parts that came are old
	epoch int // the latest one by which a part came
	works []work
}

// newSpeaker: a speaker without tasks.
func newSpeaker(s Setup, weights model.Weights) *speaker {
	n, _ := decode.New(s.Model, weights, decode.Plan{Page: s.Page, Pages: s.Pages, Rate: s.Rate, Slots: s.Slots})
	return &speaker{node: n, pages: s.Pages, lasts: lasts(s)}
}

// find: where a request's try stands; -1: it isn't known.
func (s *speaker) find(req, try int) int {
	return slices.IndexFunc(s.works, func(x work) bool { return x.req == req && x.try == try })
}

// tick: all tasks go on, and answers go to the door.
func (s *speaker) tick(now int) []wire.Msg {
	for _, a := range s.node.Tick() {
		if i := s.find(a.Req, a.Try); i >= 0 {
			s.works[i] = work{req: a.Req, try: a.Try, state: answered, answer: a.Tokens, due: now}
		}
	}
	s.works = slices.DeleteFunc(s.works, func(x work) bool { return x.state == coming && now-x.since >= s.lasts })
	return s.answers(now)
}

// answers: the answers that are due.
func (s *speaker) answers(now int) []wire.Msg {
	var l []wire.Msg
	for i := range s.works {
		x := &s.works[i]
		if x.state != answered || now < x.due {
			continue
		}
		l = append(l, wire.Msg{Kind: wire.Done, Req: x.req, Try: x.try, Tokens: x.answer})
		x.due = now + again
	}
	return l
}

// take: a message comes.
func (s *speaker) take(now int, m wire.Msg) []wire.Msg {
	switch m.Kind {
	case wire.Begin, wire.Chunk:
		return s.part(now, m)
	case wire.Thanks:
		s.works = slices.DeleteFunc(s.works, func(x work) bool { return x.state == answered && x.req == m.Req && x.try == m.Try })
	}
	return nil
}

// part: a part comes. It is told that it came, but for the last one, as long as there is no room for the task: that comes again.
func (s *speaker) part(now int, m wire.Msg) []wire.Msg {
	if m.Epoch < s.epoch {
		return nil
	}
	s.epoch = m.Epoch
	i := s.find(m.Req, m.Try)
	if i < 0 {
		parts, _ := recv.Begin(m.Req, m.Of) // as many as send cut
		i = len(s.works)
		s.works = append(s.works, work{req: m.Req, try: m.Try, parts: parts, since: now})
	}
	if x := &s.works[i]; x.state == coming && !s.collect(x, m) {
		return nil
	}
	return []wire.Msg{{Kind: wire.Got, To: m.From, Req: m.Req, Try: m.Try, At: m.At}}
}

// collect: a part more of a text; with the last one the task begins. False: it isn't taken.
func (s *speaker) collect(x *work, m wire.Msg) bool {
	parts, _, e := recv.Take(x.parts, send.Part{Num: m.Req, At: m.At, Of: m.Of, Text: m.Text})
	if e != api.OK {
		return false
	}
	if m.Kind == wire.Begin {
		x.prompt, x.most = m.Tokens, m.Num
	}
	if text, whole := recv.Whole(parts); whole {
		return s.begin(x, text)
	}
	x.parts = parts
	return true
}

// begin: a task begins. False: there will be room for it, but there is none yet. (If there never will be, nothing comes of it, and its parts grow old.)
func (s *speaker) begin(x *work, text string) bool {
	t := decode.Task{Req: x.req, Try: x.try, Prompt: x.prompt, Most: x.most}
	if e := s.node.Begin(t, text); e != api.OK {
		return s.node.Need(t) > s.pages
	}
	*x = work{req: x.req, try: x.try, state: running}
	return true
}
