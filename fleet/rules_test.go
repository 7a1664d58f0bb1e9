package fleet_test

import (
	"fmt"
	"math/rand"
	"slices"
	"testing"

	"tiller/api"
	"tiller/fleet"
	"tiller/net"
	"tiller/router"
	"tiller/wire"
)

// read is the message of a frame on its way; of one that was spoilt the zero one.
func read(p net.Parcel) wire.Msg {
	m, _ := wire.Read(p.Frame)
	return m
}

// kinds are those of all frames on their way, in their order.
func kinds(w *fleet.World) []int {
	var l []int
	for _, p := range fleet.Parcels(w) {
		l = append(l, read(p).Kind)
	}
	return l
}

// isPart tells whether a message brings a part of a text.
func isPart(m wire.Msg) bool {
	return m.Kind == wire.Begin || m.Kind == wire.Chunk
}

// youngest are the frames that a call sent, if it did nothing to those that were there but that one came.
func youngest(was, now []net.Parcel) []net.Parcel {
	if len(now) >= len(was) && slices.Equal(now[:len(was)], was) {
		return now[len(was):]
	}
	return now[len(was)-1:]
}

// Parts go to a node only from one that believes in it, by the epoch of that belief; those that go on say nothing but answers and what came, to whom it belongs.
func TestParts(t *testing.T) {
	parts := 0
	for seed := range int64(200) {
		rnd := rand.New(rand.NewSource(seed))
		s := anySetup(rnd)
		s.Term = max(s.Term, s.Margin+1)
		x := watched(t, s, "seed %d", seed)
		m := anyMood(rnd)
		m[3], m[4], m[5], m[6], m[12] = 0, 0, 0, 0, 0 // frames come, or stand where and as they are
		for range 300 {
			was := fleet.Parcels(x.w)
			x.anyCall(rnd, m, bounds{6, 6, 0})
			for _, p := range youngest(was, fleet.Parcels(x.w)) {
				said := read(p)
				if !isPart(said) {
					continue
				}
				parts++
				if epoch, may := fleet.Epoch(x.w, said.From, p.To); !may || epoch != said.Epoch || said.To != p.To || p.To <= s.Door.Prefills {
					x.fail("node %d sends %v, and believes %v by %d", said.From, said, may, epoch)
				}
			}
		}
	}
	if parts < 500 {
		t.Errorf("%d parts: too few to tell", parts)
	}
}

// deliverAll has all come that is on its way, and what is said at that.
func deliverAll(w *fleet.World) {
	for w.Deliver(0, false) == api.OK {
	}
}

// A node works at its own ticks alone: a prompt is done at just the tick that Rate says, and so is the answer, however often others tick and frames come.
func TestOwnTicks(t *testing.T) {
	for rate := 1; rate <= 5; rate++ {
		s := fleet.Plain(small(), 17)
		s.Rate = rate
		prompt := []int{1, 4, 2, 6, 5, 3}
		x := watched(t, s, "rate %d", rate)
		x.w.Submit(prompt, 6)
		deliverAll(x.w)
		for tick := 1; tick <= (len(prompt)+rate-1)/rate; tick++ {
			if len(x.w.Pages(1)) != 0 || x.w.Way() != 0 {
				x.fail("done ahead of tick %d", tick)
			}
			x.w.Tick(0)
			x.w.Tick(2)
			x.w.Tick(3)
			x.w.Tick(4)
			x.w.Tick(1)
		}
		if len(x.w.Pages(1)) != 3 {
			x.fail("not done in time")
		}
		deliverAll(x.w)
		x.w.Tick(1)
		deliverAll(x.w)
		if _, needed, _ := x.w.Counts(3); needed != 6 {
			x.fail("%d pages are needed", needed)
		}
		said := len(x.says(prompt, 6))
		for tick := 1; tick <= (said+rate-1)/rate; tick++ {
			if _, needed, _ := x.w.Counts(3); needed != 6 {
				x.fail("answered ahead of tick %d", tick)
			}
			x.w.Tick(1)
			x.w.Tick(2)
			x.w.Tick(0)
			deliverAll(x.w)
			x.w.Tick(3)
		}
		deliverAll(x.w)
		if e, _ := x.w.Entry(0); e.End != router.Completed {
			x.fail("not answered in time: %v", e)
		}
		x.check()
	}
}

// A part of an elder epoch than one that came does nothing; one of the same epoch does, and so does one of a later.
func TestElderEpoch(t *testing.T) {
	for second := 3; second <= 5; second++ {
		x := watched(t, fleet.Plain(small(), 7), "epoch %d", second)
		part := wire.Msg{Kind: wire.Begin, From: 1, To: 3, Req: 5, Num: 2, Epoch: 4, Of: 1, Tokens: []int{1, 2}}
		other := part
		other.From, other.Req, other.Epoch = 2, 6, second
		for _, m := range []wire.Msg{part, other} {
			fleet.Put(x.w, m)
			x.w.Deliver(x.w.Way()-1, false)
		}
		_, needed, _ := x.w.Counts(3)
		if second < 4 && (needed != 2 || x.w.Way() != 1) || second >= 4 && (needed != 4 || x.w.Way() != 2) {
			x.fail("%d pages are needed, %d frames on their way", needed, x.w.Way())
		}
	}
}

// A part that comes twice does nothing the second time but being told again, while its task runs, and when it is answered.
func TestTwice(t *testing.T) {
	s := fleet.Plain(small(), 17)
	s.Rate = 1
	x := watched(t, s, "twice")
	part := wire.Msg{Kind: wire.Begin, From: 1, To: 3, Req: 5, Num: 9, Epoch: 1, Of: 1, Tokens: []int{1, 4, 2, 6}}
	cost := 3 + len(x.says(part.Tokens, 9)) // its text is no bundle, so that the node works on the prompt by itself
	for ticks := range cost + 3 {
		fleet.Put(x.w, part)
		if x.w.Deliver(0, false); !slices.Equal(kinds(x.w), []int{wire.Got}) {
			x.fail("behind %d ticks: %v", ticks, kinds(x.w))
		}
		x.w.Lose(0)
		if _, needed, _ := x.w.Counts(3); ticks < cost && needed != 7 || ticks >= cost && needed != 0 {
			x.fail("behind %d of %d ticks %d pages are needed", ticks, cost, needed)
		}
		for x.w.Tick(3); x.w.Way() > 0; {
			x.w.Lose(0)
		}
	}
}

// What isn't known to have come is sent again: whichever the first frames of a kind are that are lost, but for the order, a request is Completed at its first try.
func TestLost(t *testing.T) {
	for kind := wire.Chunk; kind <= wire.Let; kind++ {
		for _, lost := range []int{1, 2, 3, 4, 12} {
			s := fleet.Plain(small(), 7)
			s.Part = 50
			x := watched(t, s, "kind %d, %d lost", kind, lost)
			x.w.Submit([]int{1, 2, 3, 4, 5, 6}, 6)
			x.w.Submit([]int{3, 1, 1, 1}, 6) // by the other node, to another one
			x.w.Submit([]int{2, 1, 1, 1}, 6)
			x.w.Submit([]int{5, 1, 1, 1}, 6)
			left := lost
			for range 58 {
				for i := range 5 {
					x.w.Tick(i)
				}
				for x.w.Way() > 0 {
					if left > 0 && kinds(x.w)[0] == kind {
						left--
						x.w.Lose(0)
						continue
					}
					x.w.Deliver(0, false)
				}
				x.check()
			}
			for req := range 4 {
				if e, _ := x.w.Entry(req); e.End != router.Completed || e.Order.Try != 0 {
					x.fail("request %d: %v", req, e)
				}
			}
			if left > 0 && kind != wire.Deny && kind != wire.Let && kind != wire.Thanks {
				x.fail("%d were never sent", left)
			}
		}
	}
}

// An answer goes to the door again and again until it is thanked for, and no longer; each time that it comes it is thanked for, and it counts once.
func TestThanks(t *testing.T) {
	x := watched(t, fleet.Plain(small(), 7), "thanks")
	x.w.Submit([]int{1, 2, 3}, 2)
	for range 30 {
		for i := range 5 {
			x.w.Tick(i)
		}
		for x.w.Way() > 0 && kinds(x.w)[0] != wire.Done {
			x.w.Deliver(0, false)
		}
		if x.w.Way() > 0 {
			break
		}
	}
	for range 3 {
		x.w.Deliver(0, true)
		x.check()
	}
	if l := kinds(x.w); !slices.Equal(l, []int{wire.Done, wire.Thanks, wire.Thanks, wire.Thanks}) {
		x.fail("on their way are %v", l)
	}
	for x.w.Way() > 0 {
		x.w.Lose(0)
	}
	said := 0
	for range 24 {
		x.w.Tick(3)
		for x.w.Way() > 0 {
			said++
			x.w.Lose(0)
		}
	}
	if said < 3 {
		x.fail("an answer that wasn't thanked for was sent %d times more", said)
	}
	for range 12 {
		x.w.Tick(3)
		deliverAll(x.w)
	}
	for range 24 {
		if x.w.Tick(3); x.w.Way() != 0 {
			x.fail("said once more: %v", kinds(x.w))
		}
	}
}

// A text that is too long for as many parts as there may be goes as an empty one: the request is Completed all the same.
func TestTooLong(t *testing.T) {
	s := fleet.Plain(small(), 7)
	s.Part, s.Door.Tries = 1, 1
	x := watched(t, s, "too long")
	x.w.Submit(slices.Repeat([]int{1, 2, 3}, 20), 6)
	x.allSaid(59)
	if transfers, works := fleet.Kept(x.w); transfers != 0 || works != 0 {
		x.fail("%d transfers, %d works are kept", transfers, works)
	}
}

// A request that needs more pages than a node has fails in the end, and is in nobody's way: others are Completed meanwhile.
func TestNoPages(t *testing.T) {
	s := fleet.Plain(small(), 7)
	s.Pages, s.Door.Decodes, s.Door.Prefills = 4, 1, 1
	x := watched(t, s, "no pages")
	x.w.Submit([]int{1, 2, 3, 4, 5, 6}, 6)
	for req := 1; req < 5; req++ {
		x.w.Submit([]int{req, req}, 6)
	}
	x.w.Calm(59)
	x.check()
	for req := 1; req < 5; req++ {
		if e, _ := x.w.Entry(req); e.End != router.Completed {
			x.fail("request %d: %v", req, e)
		}
	}
	if transfers, _ := fleet.Kept(x.w); transfers != 0 {
		x.fail("what never will be of use is sent again")
	}
	x.w.Calm(121)
	x.check()
	if e, _ := x.w.Entry(0); e.End != router.Failed {
		x.fail("request 0: %v", e)
	}
}

// No more is kept than is of use: behind a while nothing of requests that ended, whatever happened.
func TestKept(t *testing.T) {
	for seed := range int64(150) {
		rnd := rand.New(rand.NewSource(seed))
		s := anySetup(rnd)
		x := watched(t, s, "seed %d", seed)
		m := anyMood(rnd)
		for range 150 {
			x.anyCall(rnd, m, bounds{6, 5, 3})
		}
		x.w.Calm(3*s.Door.Tries*s.Door.Wait + 700)
		if transfers, works := fleet.Kept(x.w); transfers != 0 || works != 0 {
			x.fail("%d transfers, %d works are kept", transfers, works)
		}
	}
}

// A place is given back when it isn't needed any more, and when its time is over: others needn't wait for the whole term, and nobody has it for ever.
func TestGivenBack(t *testing.T) {
	for _, term := range []int{3, 5, 20, 1 << 20} {
		s := fleet.Plain(small(), 17)
		s.Door.Prefills, s.Door.Decodes, s.Door.Tries = 4, 1, 1
		s.Term, s.Part, s.Slots = term, 16, 8
		x := watched(t, s, "term %d", term)
		for first := range 7 {
			x.w.Submit([]int{first, 1, 2, 3, 4, 5}, 6)
		}
		x.allSaid(59)
		x.w.Calm(2)
		if l := x.w.Believers(5); len(l) != 0 {
			x.fail("%v believe in a place that nobody needs", l)
		}
	}
}

// handingOut is a fleet in which node 1 has the place 3, and sends a text of more parts than go at once, of which none has come.
func handingOut(t *testing.T, what string) *watch {
	s := fleet.Plain(small(), 17)
	s.Part = 8
	x := watched(t, s, "%s", what)
	x.w.Submit([]int{1, 2, 3, 4, 5, 6}, 6)
	x.until(func() bool { return x.isBelieved(3) }, func() {
		for i := range 5 {
			x.w.Tick(i)
		}
		for x.w.Way() > 0 && !isPart(read(fleet.Parcels(x.w)[0])) {
			x.w.Deliver(0, false)
		}
	})
	return x
}

// Who goes on crashes in the midst of a text: its parts go to its next life from the first one on, without waiting for another try.
func TestCrashAmidst(t *testing.T) {
	for came := range 16 {
		x := handingOut(t, fmt.Sprint(came, " parts came"))
		for range came {
			x.w.Deliver(0, false)
		}
		for i := x.w.Way() - came; i < x.w.Way(); i++ { // it is known that they came
			x.w.Deliver(x.w.Way()-1, false)
		}
		x.w.Crash(3)
		x.w.Calm(50)
		x.check()
		if e, _ := x.w.Entry(0); e.End != router.Completed || e.Order.Try != 0 {
			x.fail("%v", e)
		}
	}
}

// Parts go again only behind a while, as long as it isn't known that one came, and at each tick, if it is.
func TestPace(t *testing.T) {
	x := handingOut(t, "pace")
	first := x.w.Way()
	for range 9 {
		x.w.Tick(1)
	}
	if n := x.w.Way(); n <= first || n > 4*first {
		x.fail("%d parts at once, %d behind 9 ticks", first, n)
	}
	x = handingOut(t, "pace")
	of := read(fleet.Parcels(x.w)[0]).Of
	deliverAll(x.w)
	for n := first; n < of; n += first {
		x.w.Tick(1)
		deliverAll(x.w)
	}
	if transfers, _ := fleet.Kept(x.w); transfers != 0 || of <= 2*first {
		x.fail("%d parts, %d at once, aren't all sent", of, first)
	}
}

// An order that comes again while its text is handed out does nothing.
func TestAskedTwice(t *testing.T) {
	s := fleet.Plain(small(), 17)
	s.Part = 8
	x := watched(t, s, "asked twice")
	x.w.Submit([]int{1, 2, 3, 4, 5, 6}, 6)
	for range 12 {
		x.w.Deliver(0, true)
		x.w.Tick(1)
		if transfers, _ := fleet.Kept(x.w); transfers > 1 {
			x.fail("%d transfers of one text", transfers)
		}
	}
	x.allSaid(100)
}

// A grant to an elder life of who wanted it is none to the next one: it would believe for longer than the authority does.
func TestElderGrant(t *testing.T) {
	s := fleet.Plain(small(), 17)
	s.Door.Decodes, s.Margin = 1, 3
	x := watched(t, s, "an elder grant")
	all := func() {
		for i := range 4 {
			x.w.Tick(i)
		}
	}
	deliver := func(kind, node int) { // all of a kind from or to a node
		for i := x.w.Way() - 1; i >= 0; i-- {
			if m := read(fleet.Parcels(x.w)[i]); m.Kind == kind && (m.From == node || m.To == node) {
				x.w.Deliver(i, false)
			}
		}
	}
	x.w.Submit([]int{1, 1}, 6)
	x.w.Submit([]int{2, 2}, 6)
	x.w.Submit([]int{3, 3}, 6)
	deliver(wire.Ask, 1)
	deliver(wire.Ask, 2)
	all()
	deliver(wire.Want, 1)
	late := x.w.Way() - 1 // the grant, which comes to the next life
	grant := read(fleet.Parcels(x.w)[late])
	if grant.Kind != wire.Grant || grant.To != 1 {
		t.Fatalf("no grant, but %v", grant)
	}
	x.w.Lose(late)
	x.w.Crash(1)
	x.w.Start(1)
	for range s.Term - 3 {
		all()
	}
	fleet.Put(x.w, wire.Msg{Kind: wire.Ask, To: 1, Req: 2, Num: 6, At: 3, Tokens: []int{3, 3}})
	deliver(wire.Ask, 1)
	all() // the next life wants the place, too
	fleet.Put(x.w, grant)
	x.w.Deliver(x.w.Way()-1, false)
	for range 3 {
		all()
		deliver(wire.Want, 2)
		deliver(wire.Grant, 2)
		x.check()
	}
	if l := x.w.Believers(3); !slices.Equal(l, []int{2}) {
		t.Errorf("%v believe", l)
	}
}

// wants are the numbers of all wants on their way, in their order.
func wants(w *fleet.World) []int {
	var l []int
	for _, p := range fleet.Parcels(w) {
		if m := read(p); m.Kind == wire.Want {
			l = append(l, m.Num)
		}
	}
	return l
}

// A want that isn't answered is sent again, and asked anew once its grant would be of no use; one that is denied is asked anew at the next tick.
func TestWants(t *testing.T) {
	s := fleet.Plain(small(), 17)
	x := watched(t, s, "wants")
	x.w.Submit([]int{1, 2}, 6)
	x.w.Deliver(0, false)
	for range s.Term - s.Margin {
		x.w.Tick(1)
	}
	if l := wants(x.w); len(l) < 3 || slices.Min(l) != 1 || slices.Max(l) != 1 {
		x.fail("wants %v", l)
	}
	x.w.Tick(1)
	if l := wants(x.w); l[len(l)-1] != 2 {
		x.fail("wants %v", l)
	}
	for x.w.Way() > 1 {
		x.w.Lose(0)
	}
	x.w.Lapse() // it grants nothing for a term
	x.w.Deliver(0, false)
	if l := kinds(x.w); !slices.Equal(l, []int{wire.Deny}) {
		x.fail("the want is answered by %v", l)
	}
	x.w.Deliver(0, false)
	x.w.Tick(1)
	if l := wants(x.w); !slices.Equal(l, []int{3}) {
		x.fail("denied, and wants %v", l)
	}
}
