package script_test

import (
	"math"
	"math/big"
	"math/rand"
	"slices"
	"testing"

	"tiller/api"
	"tiller/fleet"
	"tiller/greedy"
	"tiller/model"
	"tiller/router"
	"tiller/script"
)

// said is what the model says behind a prompt.
func said(c api.Config, seed uint64, most int, prompt ...int) []int {
	weights, _ := model.Make(c, seed)
	answer, _ := greedy.Run(c, weights, prompt, most)
	return answer
}

// rest is the remainder that isn't below 0, reckoned without bounds.
func rest(i, n int) int {
	return int(new(big.Int).Mod(big.NewInt(int64(i)), big.NewInt(int64(n))).Int64())
}

// numbers are some about 0 and n, far off, and as small and as great as int holds.
func numbers(n int) []int {
	l := []int{math.MinInt, math.MinInt + 1, math.MinInt + 2, -1 << 31, -1000003, -100, 100, 1000003, 1 << 31, 1 << 32, math.MaxInt - 2, math.MaxInt - 1, math.MaxInt}
	for i := -2*n - 1; i <= 2*n+1; i++ {
		l = append(l, i)
	}
	return l
}

// wants holds the last errors of a trace against those that are wanted.
func wants(t *testing.T, what string, i int, x script.Trace, want ...api.Errno) {
	t.Helper()
	if last := x.Errors[len(x.Errors)-len(want):]; !slices.Equal(last, want) {
		t.Errorf("%s of %d: %v, not %v", what, i, last, want)
	}
}

// A setup that isn't right: the error of fleet.New, and nothing beside it.
func TestWrongSetups(t *testing.T) {
	wrong := []func(s *fleet.Setup){
		func(s *fleet.Setup) { *s = fleet.Setup{} },
		func(s *fleet.Setup) { s.Model.Vocab = 1 },
		func(s *fleet.Setup) { s.Model.Layers = 5 },
		func(s *fleet.Setup) { s.Model.Heads = 3 },
		func(s *fleet.Setup) { s.Door.Prefills = 0 },
		func(s *fleet.Setup) { s.Door.Prefills = 6 },
		func(s *fleet.Setup) { s.Door.Decodes = math.MaxInt },
		func(s *fleet.Setup) { s.Door.Table = 65 },
		func(s *fleet.Setup) { s.Door.Wait = math.MinInt },
		func(s *fleet.Setup) { s.Door.Tries = 17 },
		func(s *fleet.Setup) { s.Page = 17 },
		func(s *fleet.Setup) { s.Pages = 0 },
		func(s *fleet.Setup) { s.Rate = -1 },
		func(s *fleet.Setup) { s.Queue = 65 },
		func(s *fleet.Setup) { s.Slots = 0 },
		func(s *fleet.Setup) { s.Part = 4097 },
		func(s *fleet.Setup) { s.Term = 0 },
		func(s *fleet.Setup) { s.Margin = 1<<20 + 1 },
	}
	events := []script.Event{submit(3, 1, 2), of(99, 0), of(script.Calm, 100)}
	for i, spoil := range wrong {
		s := fleet.Plain(small(), 7)
		spoil(&s)
		_, want := fleet.New(s)
		for _, l := range [][]script.Event{nil, {}, events} {
			x, e := script.Play(s, l)
			if e != want || want == api.OK || len(x.Errors) != 0 || !same(x, script.Trace{}) {
				t.Errorf("setup %d: %v, %d, not %d", i, x, e, want)
			}
		}
	}
}

// Of no events nothing comes.
func TestNoEvents(t *testing.T) {
	for _, l := range [][]script.Event{nil, {}} {
		if x, e := script.Play(fleet.Plain(small(), 7), l); e != api.OK || !same(x, script.Trace{}) {
			t.Errorf("Play of %v: %v, %d", l, x, e)
		}
	}
}

// peers are the others that do what a node does.
func peers(s fleet.Setup, node int) []int {
	var l []int
	for other := 1; other <= s.Door.Prefills+s.Door.Decodes; other++ {
		if node > 0 && other != node && (other <= s.Door.Prefills) == (node <= s.Door.Prefills) {
			l = append(l, other)
		}
	}
	return l
}

// Numbers of nodes are brought among those there are, the door among them.
func TestNodes(t *testing.T) {
	for _, decodes := range []int{1, 2, 5} {
		s := fleet.Plain(small(), 7)
		s.Door.Decodes, s.Door.Wait, s.Door.Tries = decodes, 2, 1
		n := 1 + s.Door.Prefills + decodes
		for _, i := range numbers(n) {
			node := rest(i, n)
			checkCrash(t, s, i, node)
			checkTick(t, s, i, node)
			checkDrain(t, s, i, node)
		}
	}
}

// checkCrash holds Crash and Start of a number against those of the node that it stands for.
func checkCrash(t *testing.T, s fleet.Setup, i, node int) {
	t.Helper()
	x := played(t, s, of(script.Start, i), of(script.Crash, i), of(script.Crash, node), of(script.Start, node), of(script.Crash, node), of(script.Crash, i), of(script.Start, i), of(script.Start, node))
	if node == 0 {
		wants(t, "Crash, Start", i, x, api.ErrNone, api.ErrNone, api.ErrNone, api.ErrNone, api.ErrNone, api.ErrNone, api.ErrNone, api.ErrNone)
		return
	}
	wants(t, "Crash, Start", i, x, api.ErrThere, api.OK, api.ErrDown, api.OK, api.OK, api.ErrDown, api.OK, api.ErrThere)
}

// checkTick holds Tick of a number against that of the node that it stands for: requests fail by the door's clock alone.
func checkTick(t *testing.T, s fleet.Setup, i, node int) {
	t.Helper()
	x := played(t, s, submit(3, 1), of(script.Tick, i), of(script.Tick, i))
	wants(t, "Tick", i, x, api.OK, api.OK, api.OK)
	if (len(x.Ended) == 1) != (node == 0) || (x.Open == 0) != (node == 0) {
		t.Errorf("Tick of %d: %s", i, text(x))
	}
	if node == 0 && !sameEnded(x.Ended[0], script.Ended{Event: 2, End: router.Failed}) {
		t.Errorf("Tick of %d: %s", i, text(x))
	}
}

// checkDrain holds Drain and Join of a number against those of the node that it stands for, which is the last one of its kind.
func checkDrain(t *testing.T, s fleet.Setup, i, node int) {
	t.Helper()
	var l []script.Event
	for _, other := range peers(s, node) {
		l = append(l, of(script.Drain, other))
	}
	x := played(t, s, append(l, submit(3, 1), of(script.Drain, i), submit(3, 1), of(script.Join, i), submit(3, 1))...)
	if node == 0 {
		wants(t, "Drain, Join", i, x, api.OK, api.ErrNone, api.OK, api.ErrNone, api.OK)
		return
	}
	wants(t, "Drain, Join", i, x, api.OK, api.OK, api.ErrDown, api.OK, api.OK)
}

// asks are so many requests that come, each a frame on its way.
func asks(frames int) []script.Event {
	var l []script.Event
	for k := range frames {
		l = append(l, submit(3, k))
	}
	return l
}

// turn turns a bit of the frame at a place: of each but once, by which it is known again.
func turn(i int) script.Event {
	return script.Event{Kind: script.Turn, I: i, Bits: 1}
}

// Numbers of places are brought among the frames on their way.
func TestPlaces(t *testing.T) {
	s := fleet.Plain(small(), 7)
	for frames := 1; frames <= 7; frames++ {
		for _, i := range numbers(frames) {
			place := rest(i, frames)
			marked := append(asks(frames), turn(place))
			x := played(t, s, append(asks(frames), turn(i), turn(place))...)
			wants(t, "Turn", i, x, api.OK, api.ErrThere)
			x = played(t, s, append(slices.Clone(marked), of(script.Move, i), turn(frames-1))...)
			wants(t, "Move", i, x, api.OK, api.ErrThere)
			x = played(t, s, append(slices.Clone(marked), of(script.Double, i), turn(place))...)
			wants(t, "Double", i, x, api.OK, api.ErrThere)
			for _, kind := range []int{script.Deliver, script.Lose} { // a frame that is spoilt does nothing when it comes
				checkGone(t, s, append(slices.Clone(marked), of(kind, i)), frames-1)
			}
		}
	}
}

// checkGone tells an error, if behind some events there aren't so many frames, none of which was turned.
func checkGone(t *testing.T, s fleet.Setup, l []script.Event, frames int) {
	t.Helper()
	last := l[len(l)-1]
	want := []api.Errno{api.OK}
	for place := range frames {
		l, want = append(l, turn(place)), append(want, api.OK)
	}
	for range frames {
		l, want = append(l, of(script.Lose, 0)), append(want, api.OK)
	}
	x := played(t, s, append(l, of(script.Lose, 0))...)
	wants(t, "a frame is gone", last.I, x, append(want, api.ErrNone)...)
}

// A frame that is doubled comes, and stays; one that is delivered comes, and is gone; one that is lost doesn't come.
func TestComes(t *testing.T) {
	s := fleet.Plain(small(), 7)
	for _, c := range []struct {
		kind   int
		comes  bool
		behind api.Errno // of another Lose
	}{
		{script.Deliver, true, api.ErrNone},
		{script.Double, true, api.OK},
		{script.Lose, false, api.ErrNone},
		{script.Move, false, api.OK},
		{script.Turn, false, api.OK},
	} {
		x := played(t, s, submit(3, 1, 2), script.Event{Kind: c.kind, Bits: 1}, of(script.Lose, 0), of(script.Calm, 30))
		wants(t, "a frame comes", c.kind, x, api.OK, api.OK, c.behind, api.OK)
		if (len(x.Ended) == 1) != c.comes || (x.Open == 0) != c.comes {
			t.Errorf("kind %d: %s", c.kind, text(x))
		}
	}
}

// Where no frame is on its way there is no place, whatever its number.
func TestNoFrames(t *testing.T) {
	for _, i := range numbers(2) {
		for _, kind := range []int{script.Deliver, script.Double, script.Lose, script.Move, script.Turn} {
			x := played(t, fleet.Plain(small(), 7), of(kind, i), submit(3, 1), of(script.Lose, i), of(kind, i))
			wants(t, "no frame", i, x, api.ErrNone, api.OK, api.OK, api.ErrNone)
		}
	}
}

// Turn has the errors of the net, in its order.
func TestTurn(t *testing.T) {
	s := fleet.Plain(small(), 7)
	at := func(at int, bits uint32) script.Event {
		return script.Event{Kind: script.Turn, I: 3, At: at, Bits: bits}
	}
	for _, place := range []int{math.MinInt, -1, 8 * api.MaxFrame, math.MaxInt} {
		x := played(t, s, at(place, 1), submit(3, 1), at(place, 1), at(5, 1<<31), at(5, 1), at(place, 1))
		wants(t, "Turn at", place, x, api.ErrNone, api.OK, api.ErrArg, api.OK, api.ErrThere, api.ErrArg)
	}
	for _, bits := range []uint32{0, 1, 1 << 31, math.MaxUint32} {
		world, _ := fleet.New(s)
		world.Submit([]int{1}, 3)
		first, second := world.Turn(0, 9, bits), world.Turn(0, 9, bits)
		x := played(t, s, submit(3, 1), at(9, bits), at(9, bits), of(script.Calm, 30))
		wants(t, "Turn", int(bits), x, api.OK, first, second, api.OK)
		if bits != 0 && len(x.Ended) != 0 {
			t.Errorf("bits %d: a spoilt frame did something: %s", bits, text(x))
		}
	}
}

// A kind that isn't one does nothing.
func TestOtherKinds(t *testing.T) {
	s := fleet.Plain(small(), 7)
	for _, kind := range []int{math.MinInt, -13, -1, 0, 14, 15, 99, 1 << 32, 1<<32 + 1, math.MaxInt} {
		other := script.Event{Kind: kind, I: 1, At: 3, Bits: 1, Prompt: []int{1}, Most: 3}
		x := played(t, s, other, submit(3, 1, 2), other, of(script.Calm, 100), other)
		if !slices.Equal(x.Errors, []api.Errno{api.ErrKind, api.OK, api.ErrKind, api.OK, api.ErrKind}) {
			t.Errorf("kind %d: %v", kind, x.Errors)
		}
		want := script.Ended{Event: 3, End: router.Completed, Tokens: said(small(), 7, 3, 1, 2)}
		if len(x.Asked) != 1 || x.Asked[0].Event != 1 || len(x.Ended) != 1 || !sameEnded(x.Ended[0], want) || x.Open != 0 {
			t.Errorf("kind %d: %s", kind, text(x))
		}
	}
}

// helpless is a setup in which the requests of long fail by the door's clock, since no node has room for them.
func helpless(rounds int) fleet.Setup {
	s := fleet.Plain(small(), 7)
	s.Page, s.Pages, s.Door.Wait, s.Door.Tries = 1, 1, rounds, 1
	return s
}

// long is a request that needs more pages than a node of helpless has.
func long() script.Event {
	return submit(6, 1, 2, 3, 4, 5)
}

// Calm is of as many rounds as it says, but of none below 1, and of 100 above that.
func TestCalm(t *testing.T) {
	for _, i := range []int{math.MinInt, -100, -1, 0, 1, 2, 3, 50, 99, 100, 101, 102, 200, 1 << 40, math.MaxInt} {
		rounds := max(0, min(100, i))
		x := played(t, helpless(rounds+1), long(), of(script.Calm, i), of(script.Calm, 0), of(script.Calm, 1))
		if len(x.Ended) != 1 || !sameEnded(x.Ended[0], script.Ended{Event: 3, End: router.Failed}) {
			t.Errorf("Calm of %d, and one more: %s", i, text(x))
		}
		wants(t, "Calm", i, x, api.OK, api.OK, api.OK)
		if rounds == 0 {
			continue
		}
		x = played(t, helpless(rounds), long(), of(script.Calm, i), of(script.Calm, 1))
		if len(x.Ended) != 1 || !sameEnded(x.Ended[0], script.Ended{Event: 1, End: router.Failed}) {
			t.Errorf("Calm of %d: %s", i, text(x))
		}
	}
}

// Calm starts and joins nodes, and all that is on its way comes.
func TestCalmMends(t *testing.T) {
	x := played(t, fleet.Plain(small(), 7), submit(3, 1), of(script.Crash, 3), of(script.Drain, 3), of(script.Drain, 4), submit(3, 1), of(script.Calm, 1), of(script.Lose, 0), of(script.Start, 3), submit(3, 1))
	wants(t, "Calm", 1, x, api.ErrDown, api.OK, api.ErrNone, api.ErrThere, api.OK)
}

// Lapse: a place that would be granted isn't for a term.
func TestLapse(t *testing.T) {
	s := fleet.Plain(small(), 7)
	for _, i := range []int{math.MinInt, 0, 3, math.MaxInt} {
		x := played(t, s, submit(3, 1), of(script.Lapse, i), of(script.Calm, 15), of(script.Calm, 40))
		wants(t, "Lapse", i, x, api.OK, api.OK, api.OK, api.OK)
		if len(x.Ended) != 1 || x.Ended[0].Event != 3 || x.Ended[0].End != router.Completed {
			t.Errorf("Lapse: %s", text(x))
		}
		x = played(t, s, submit(3, 1), of(script.Calm, 15))
		if len(x.Ended) != 1 {
			t.Errorf("without Lapse: %s", text(x))
		}
	}
}

// Several that end behind one event are told by rising numbers, whichever ended ahead; those that end later, later.
func TestSeveral(t *testing.T) {
	s := fleet.Plain(small(), 7)
	s.Rate, s.Door.Table = 1, 8
	l := []script.Event{submit(40, 1, 2, 3, 4, 5, 6, 5, 4, 3, 2, 1), submit(1, 2), submit(6, 1, 2), submit(1, 3, 3)}
	step := slices.Clone(l)
	for range 100 {
		step = append(step, of(script.Calm, 1))
	}
	once, slowly := played(t, s, append(slices.Clone(l), of(script.Calm, 100))...), played(t, s, step...)
	if len(once.Ended) != 4 || len(slowly.Ended) != 4 {
		t.Fatalf("%s and %s", text(once), text(slowly))
	}
	for req, x := range once.Ended {
		if !sameEnded(x, script.Ended{Event: 4, Req: req, End: router.Completed, Tokens: said(small(), 7, l[req].Most, l[req].Prompt...)}) {
			t.Errorf("request %d at once: %v", req, x)
		}
	}
	first, last := slowly.Ended[0], slowly.Ended[3]
	if first.Req == 0 || last.Req != 0 || last.Event == first.Event {
		t.Errorf("one by one: %v", slowly.Ended)
	}
}

// Some fail and others are answered behind one event, and some that failed stay ahead of those of later events.
func TestSomeFail(t *testing.T) {
	s := helpless(3)
	s.Page, s.Pages, s.Door.Wait, s.Door.Tries = 1, 6, 50, 1
	x := played(t, s, long(), submit(2, 1, 2), long(), submit(1, 3), of(script.Calm, 60), long(), long(), of(script.Calm, 49), of(script.Calm, 1))
	var reqs, ends, events []int
	for _, y := range x.Ended {
		reqs, ends, events = append(reqs, y.Req), append(ends, y.End), append(events, y.Event)
		if y.End == router.Failed && len(y.Tokens) != 0 {
			t.Errorf("failed with an answer: %v", y)
		}
	}
	if !slices.Equal(reqs, []int{0, 1, 2, 3, 4, 5}) || !slices.Equal(ends, []int{2, 1, 2, 1, 2, 2}) || !slices.Equal(events, []int{4, 4, 4, 4, 8, 8}) || x.Open != 0 {
		t.Errorf("ended: %s", text(x))
	}
}

// Requests that are refused aren't among those that were asked, and have no number.
func TestRefused(t *testing.T) {
	s := fleet.Plain(small(), 7)
	s.Door.Table = 3
	refused := []script.Event{submit(3), submit(3, 7), submit(3, 1, -1), submit(0, 1), submit(math.MinInt, 1), submit(128, 1), submit(math.MaxInt, 1), submit(1, make([]int, 128)...), submit(1, make([]int, 129)...)}
	errors := []api.Errno{api.ErrNone, api.ErrToken, api.ErrToken, api.ErrArg, api.ErrArg, api.ErrBig, api.ErrBig, api.ErrBig, api.ErrBig}
	var l []script.Event
	var want []api.Errno
	both := func(x script.Event, e api.Errno) {
		l, want = append(append(l, x), refused...), append(append(want, e), errors...)
	}
	both(submit(3, 1, 2), api.OK)
	both(submit(2, 3), api.OK)
	both(submit(127, 4), api.OK)
	both(submit(3, 5), api.ErrFull)
	both(of(script.Calm, 100), api.OK)
	both(of(script.Drain, 3), api.OK)
	both(of(script.Drain, 4), api.OK)
	both(submit(3, 5), api.ErrDown)
	both(of(script.Join, 4), api.OK)
	both(submit(1, make([]int, 127)...), api.OK)
	x := played(t, s, l...)
	if !slices.Equal(x.Errors, want) {
		t.Errorf("errors %v, not %v", x.Errors, want)
	}
	if len(x.Asked) != 4 || len(x.Ended) != 3 || x.Open != 1 {
		t.Fatalf("%s", text(x))
	}
	for req, event := range []int{0, 10, 20, 90} {
		if !sameAsked(x.Asked[req], script.Asked{Event: event, Prompt: l[event].Prompt, Most: l[event].Most}) {
			t.Errorf("asked: %v, by event %d", x.Asked[req], event)
		}
	}
	for req, y := range x.Ended {
		if !sameEnded(y, script.Ended{Event: 40, Req: req, End: router.Completed, Tokens: said(small(), 7, x.Asked[req].Most, x.Asked[req].Prompt...)}) {
			t.Errorf("ended: %v", y)
		}
	}
}

// call makes the call of a fleet that an event stands for.
func call(w *fleet.World, x script.Event) api.Errno {
	node, place := rest(x.I, w.Nodes()), 0
	if w.Way() > 0 {
		place = rest(x.I, w.Way())
	}
	switch x.Kind {
	case 1:
		_, e := w.Submit(x.Prompt, x.Most)
		return e
	case 2:
		return w.Tick(node)
	case 3:
		return w.Deliver(place, false)
	case 4:
		return w.Deliver(place, true)
	case 5:
		return w.Lose(place)
	case 6:
		return w.Move(place)
	case 7:
		return w.Turn(place, x.At, x.Bits)
	case 8:
		return w.Crash(node)
	case 9:
		return w.Start(node)
	case 10:
		w.Lapse()
		return api.OK
	case 11:
		return w.Drain(node)
	case 12:
		return w.Join(node)
	case 13:
		for range min(100, x.I) {
			w.Calm(1)
		}
		return api.OK
	}
	return api.ErrKind
}

// told is the trace of a script by a fleet's calls, of which all requests are looked at behind each.
func told(s fleet.Setup, events []script.Event) script.Trace {
	w, _ := fleet.New(s)
	var x script.Trace
	seen := map[int]bool{}
	for at, event := range events {
		x.Errors = append(x.Errors, call(w, event))
		count, open := w.Requests()
		for req := range count {
			e, _ := w.Entry(req)
			if req == len(x.Asked) {
				x.Asked = append(x.Asked, script.Asked{Event: at, Prompt: e.Prompt, Most: e.Most})
			}
			if e.End != router.Open && !seen[req] {
				seen[req] = true
				x.Ended = append(x.Ended, script.Ended{Event: at, Req: req, End: e.End, Tokens: e.Answer})
			}
		}
		x.Open = open
	}
	return x
}

// P26.1: any script, in any fleet, held against the fleet's own calls.
func TestAny(t *testing.T) {
	asked, ended, refused := 0, 0, 0
	for seed := range int64(500) {
		rnd := rand.New(rand.NewSource(seed))
		s := anySetup(rnd)
		events := anyScript(rnd, s.Model.Vocab, rnd.Intn(250))
		x, want := played(t, s, events...), told(s, events)
		if !same(x, want) {
			t.Fatalf("seed %d: %s, not %s", seed, text(x), text(want))
		}
		asked, ended = asked+len(x.Asked), ended+len(x.Ended)
		for i, e := range x.Errors {
			if e != api.OK && events[i].Kind == script.Submit {
				refused++
			}
		}
	}
	if asked < 1000 || ended < 500 || refused < 300 {
		t.Errorf("%d asked, %d ended, %d refused: too few to tell", asked, ended, refused)
	}
}
