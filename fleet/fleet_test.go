package fleet_test

import (
	"math"
	"slices"
	"testing"

	"tiller/api"
	"tiller/fleet"
	"tiller/router"
)

// bound is a number of a setup, and what may stand there: those that are right, that are below the least, and above the greatest.
type bound struct {
	name  string
	at    func(s *fleet.Setup) *int
	right []int
	below []int
	above []int
}

// bounds of a setup, in the order in which Check looks at them: those of one place are looked at together.
func allBounds() [][]bound {
	low := []int{math.MinInt, -1, 0}
	high := func(n int) []int { return []int{n, math.MaxInt} }
	pages := []bound{
		{"Page", func(s *fleet.Setup) *int { return &s.Page }, []int{1, 2, 16}, low, high(17)},
		{"Pages", func(s *fleet.Setup) *int { return &s.Pages }, []int{1, 63, 64}, low, high(65)},
		{"Rate", func(s *fleet.Setup) *int { return &s.Rate }, []int{1, 2, 128}, low, high(129)},
	}
	return [][]bound{
		{
			{"Vocab", func(s *fleet.Setup) *int { return &s.Model.Vocab }, []int{2, 3, 64}, []int{math.MinInt, 0, 1}, high(65)},
			{"Dim", func(s *fleet.Setup) *int { return &s.Model.Dim }, []int{4, 32}, low, high(33)},
			{"Heads", func(s *fleet.Setup) *int { return &s.Model.Heads }, []int{1, 2, 4}, low, high(5)},
			{"Hidden", func(s *fleet.Setup) *int { return &s.Model.Hidden }, []int{1, 64}, low, high(65)},
			{"Layers", func(s *fleet.Setup) *int { return &s.Model.Layers }, []int{1, 4}, low, high(5)},
		},
		{
			{"Prefills", func(s *fleet.Setup) *int { return &s.Door.Prefills }, []int{1, 2, 5}, low, []int{6, 7, 8, math.MaxInt}},
			{"Decodes", func(s *fleet.Setup) *int { return &s.Door.Decodes }, []int{1, 2, 5}, low, []int{6, 7, 8, math.MaxInt}},
			{"Table", func(s *fleet.Setup) *int { return &s.Door.Table }, []int{1, 63, 64}, low, high(65)},
			{"Wait", func(s *fleet.Setup) *int { return &s.Door.Wait }, []int{1, 1 << 20}, low, high(1<<20 + 1)},
			{"Tries", func(s *fleet.Setup) *int { return &s.Door.Tries }, []int{1, 16}, low, high(17)},
		},
		append(slices.Clone(pages), bound{"Queue", func(s *fleet.Setup) *int { return &s.Queue }, []int{1, 63, 64}, low, high(65)}),
		append(slices.Clone(pages), bound{"Slots", func(s *fleet.Setup) *int { return &s.Slots }, []int{1, 63, 64}, low, high(65)}),
		{
			{"Part", func(s *fleet.Setup) *int { return &s.Part }, []int{1, 4095, 4096}, low, high(4097)},
			{"Term", func(s *fleet.Setup) *int { return &s.Term }, []int{1, 1 << 20}, low, high(1<<20 + 1)},
			{"Margin", func(s *fleet.Setup) *int { return &s.Margin }, []int{0, 1, 1 << 20}, []int{math.MinInt, -1}, high(1<<20 + 1)},
		},
	}
}

// wrong is a number that makes a setup wrong: where Check looks at it, and what it answers.
type wrong struct {
	place, n int
	b        bound
	e        api.Errno
}

// wrongs are all of them, each once.
func wrongs() []wrong {
	var l []wrong
	for place, group := range allBounds() {
		for _, b := range group {
			if slices.ContainsFunc(l, func(x wrong) bool { return x.b.name == b.name }) {
				continue
			}
			for _, n := range b.below {
				l = append(l, wrong{place, n, b, api.ErrArg})
			}
			for _, n := range b.above {
				l = append(l, wrong{place, n, b, api.ErrBig})
			}
		}
	}
	return l
}

// checkSetup holds Check and New of a setup against an error.
func checkSetup(t *testing.T, s fleet.Setup, want api.Errno) {
	t.Helper()
	if e := fleet.Check(s); e != want {
		t.Fatalf("Check(%v): %d, not %d", s, e, want)
	}
	if want == api.OK && s.Model.Dim > 4 { // New takes its time
		return
	}
	w, e := fleet.New(s)
	if e != want || (w == nil) != (want != api.OK) {
		t.Fatalf("New(%v): %v, %d, not %d", s, w, e, want)
	}
	if w == nil {
		return
	}
	count, open := w.Requests()
	if w.Nodes() != 1+s.Door.Prefills+s.Door.Decodes || count != 0 || open != 0 || w.Way() != 0 || w.Drift() != 0 {
		t.Fatalf("New(%v): %d nodes, %d requests, %d open, %d frames, drift %d", s, w.Nodes(), count, open, w.Way(), w.Drift())
	}
}

// Check and New: each number at its bounds, alone and with another one that is wrong: the first error that the chapter names.
func TestCheck(t *testing.T) {
	plain := fleet.Plain(small(), 7)
	for _, group := range allBounds() {
		for _, b := range group {
			for _, n := range b.right {
				s := plain
				*b.at(&s) = n
				checkSetup(t, s, api.OK)
			}
		}
	}
	l := wrongs()
	for _, x := range l {
		for _, y := range l {
			s := plain
			*y.b.at(&s) = y.n
			*x.b.at(&s) = x.n
			want := x.e
			if y.b.name != x.b.name && (y.place < x.place || y.place == x.place && y.e == api.ErrArg) {
				want = y.e
			}
			checkSetup(t, s, want)
		}
	}
	for _, group := range allBounds() { // all of a group, and of those behind, at once
		s := plain
		for _, x := range l {
			if slices.ContainsFunc(group, func(b bound) bool { return b.name == x.b.name }) {
				*x.b.at(&s) = x.n
			}
		}
		checkSetup(t, s, api.ErrBig)
	}
}

// Check: Heads that don't divide Dim, behind the bounds of the model and ahead of all else; nodes that are too many together.
func TestCheckForm(t *testing.T) {
	for _, x := range []struct {
		dim, heads, wait, part int
		want                   api.Errno
	}{{4, 3, 60, 256, api.ErrForm}, {4, 3, 0, 256, api.ErrForm}, {4, 3, 60, 0, api.ErrForm}, {33, 2, 60, 256, api.ErrBig}, {6, 3, 60, 256, api.OK}, {6, 3, 1<<20 + 1, 0, api.ErrBig}} {
		s := fleet.Plain(small(), 7)
		s.Model.Dim, s.Model.Heads, s.Door.Wait, s.Part = x.dim, x.heads, x.wait, x.part
		checkSetup(t, s, x.want)
	}
	for prefills := 1; prefills <= 8; prefills++ {
		for decodes := 1; decodes <= 8; decodes++ {
			s := fleet.Plain(small(), 7)
			s.Door.Prefills, s.Door.Decodes = prefills, decodes
			if prefills+decodes >= 8 {
				checkSetup(t, s, api.ErrBig)
			} else {
				checkSetup(t, s, api.OK)
			}
		}
	}
}

// Plain is as the chapter says, of any model.
func TestPlain(t *testing.T) {
	for _, c := range []api.Config{small(), great(), {}, {Vocab: -1, Dim: math.MaxInt}} {
		s := fleet.Plain(c, 1<<63+5)
		want := fleet.Setup{Model: c, Seed: 1<<63 + 5, Page: 2, Pages: 64, Rate: 4, Queue: 8, Slots: 4, Part: 256, Term: 20, Margin: 2}
		want.Door = router.Plan{Prefills: 2, Decodes: 2, Table: 8, Wait: 60, Tries: 3}
		if s != want {
			t.Errorf("Plain: %v", s)
		}
	}
	checkSetup(t, fleet.Plain(small(), 7), api.OK)
	checkSetup(t, fleet.Plain(api.Config{}, 7), api.ErrArg)
}

// The chapter's example, and the first one of the whole.
func TestExample(t *testing.T) {
	x := watched(t, fleet.Plain(small(), 7), "the example")
	if req, e := x.w.Submit([]int{1, 4, 2}, 3); req != 0 || e != api.OK {
		t.Fatalf("Submit: %d, %d", req, e)
	}
	x.w.Calm(100)
	if e, ok := x.w.Entry(0); !ok || e.End != router.Completed || !slices.Equal(e.Answer, x.says([]int{1, 4, 2}, 3)) {
		t.Errorf("Entry: %v, %v", e, ok)
	}
}

// P25.1: Submit, Entry and Requests as a door by itself says, at the moments of node 0's clock.
func TestAsRouter(t *testing.T) {
	s := fleet.Plain(small(), 7)
	s.Door.Table, s.Door.Wait = 3, 4
	x := watched(t, s, "as router")
	door, _ := router.New(s.Model, s.Door)
	long := make([]int, 129)
	prompts := [][]int{nil, {}, {1}, {7}, {-1}, {1, 2, 3}, {1, 2}, long[:125], long[:128], long, {2, 1, math.MaxInt}}
	for i := range 400 {
		prompt, most := prompts[i%len(prompts)], []int{1, 3, 0, math.MinInt, 4, 126, math.MaxInt}[i%7]
		o, want := door.Submit(i, prompt, most)
		if req, e := x.w.Submit(prompt, most); e != want || req != o.Req {
			t.Fatalf("Submit(%v, %d) at %d: %d, %d, not %d, %d", prompt, most, i, req, e, o.Req, want)
		}
		if i%50 == 20 {
			for node := 3; node <= 4; node++ {
				x.is("Drain", x.w.Drain(node), door.Drain(node) == api.OK)
			}
		}
		if i%50 == 35 {
			for node := 3; node <= 4; node++ {
				x.is("Join", x.w.Join(node), door.Join(node) == api.OK)
			}
		}
		x.w.Tick(0)
		x.w.Tick(1 + i%4)
		door.Tick(i + 1)
		if count, open := x.w.Requests(); count != door.Count() || open != door.Open() {
			t.Fatalf("Requests: %d, %d", count, open)
		}
		for req := -1; req <= door.Count(); req++ {
			e, ok := x.w.Entry(req)
			if want, known := door.Get(req); ok != known || !sameEntry(e, want) {
				t.Fatalf("Entry(%d): %v, %v, not %v, %v", req, e, ok, want, known)
			}
		}
	}
	if count, _ := x.w.Requests(); count < 30 {
		t.Errorf("%d requests: too few to tell", count)
	}
}

// The calls' errors, of numbers about the bounds and as small and as great as int holds.
func TestErrors(t *testing.T) {
	x := watched(t, fleet.Plain(small(), 7), "errors")
	w := x.w
	for _, i := range []int{math.MinInt, -1, 5, 6, 8, math.MaxInt} {
		for call, e := range map[string]api.Errno{"Tick": w.Tick(i), "Crash": w.Crash(i), "Start": w.Start(i), "Drain": w.Drain(i), "Join": w.Join(i)} {
			x.is(call, e, false)
		}
		if _, ok := w.Entry(i); ok || len(w.Believers(i)) != 0 || len(w.Pages(i)) != 0 {
			t.Errorf("%d is known", i)
		}
	}
	for call, e := range map[string]api.Errno{"Crash": w.Crash(0), "Start": w.Start(0), "Drain": w.Drain(0), "Join": w.Join(0)} {
		x.is(call, e, false)
	}
	for i := 1; i < 5; i++ {
		if e := [5]api.Errno{w.Start(i), w.Crash(i), w.Crash(i), w.Tick(i), w.Start(i)}; e != [5]api.Errno{api.ErrThere, api.OK, api.ErrDown, api.OK, api.OK} {
			t.Errorf("node %d: %v", i, e)
		}
	}
	for _, way := range []int{0, 1, 2} {
		for _, i := range []int{math.MinInt, -1, way, way + 1, math.MaxInt} {
			for call, e := range map[string]api.Errno{"Deliver": w.Deliver(i, false), "twice": w.Deliver(i, true), "Lose": w.Lose(i), "Move": w.Move(i), "Turn": w.Turn(i, 0, 1)} {
				x.is(call, e, false)
			}
		}
		if w.Way() != way {
			t.Errorf("%d frames, not %d", w.Way(), way)
		}
		w.Submit([]int{1 + way}, 1)
	}
	for _, at := range []int{math.MinInt, -1, 1 << 16, math.MaxInt} {
		if e := w.Turn(0, at, 1); e != api.ErrArg {
			t.Errorf("Turn at %d: %d", at, e)
		}
	}
	if e := [2]api.Errno{w.Turn(0, 5, 1), w.Turn(0, 5, 1)}; e != [2]api.Errno{api.OK, api.ErrThere} {
		t.Errorf("Turn twice: %v", e)
	}
	for _, rounds := range []int{0, -1, math.MinInt} {
		if w.Calm(rounds); w.Way() != 3 || w.Drift() != 1 {
			t.Errorf("Calm(%d): %d frames, drift %d", rounds, w.Way(), w.Drift())
		}
	}
}

// Clocks go on at each Tick, also of a node that is down, and of all at each round of Calm; nodes are started and joined by that.
func TestClocks(t *testing.T) {
	x := watched(t, fleet.Plain(small(), 7), "clocks")
	w := x.w
	w.Crash(3)
	w.Tick(3)
	w.Tick(3)
	if w.Drift() != 2 {
		t.Errorf("Drift %d, not 2", w.Drift())
	}
	w.Tick(0)
	w.Tick(0)
	w.Tick(0)
	if w.Drift() != 3 {
		t.Errorf("Drift %d, not 3", w.Drift())
	}
	for i := 1; i < 5; i++ {
		w.Drain(i)
	}
	if _, e := w.Submit([]int{1}, 1); e != api.ErrDown {
		t.Errorf("all are drained: %d", e)
	}
	w.Calm(5)
	req, e := w.Submit([]int{1}, 1)
	if x, _ := w.Entry(req); e != api.OK || x.At != 8 || w.Start(3) != api.ErrThere || w.Drift() < 3 || w.Drift() > 4 {
		t.Errorf("behind Calm: %d, %v, drift %d", e, x, w.Drift())
	}
}

// A node that crashes knows nothing any more: its pages are free, also as long as it is down.
func TestCrash(t *testing.T) {
	x := watched(t, fleet.Plain(small(), 7), "crash")
	x.w.Submit([]int{1, 2, 3, 4, 5}, 6)
	x.w.Calm(2)
	for range 4 {
		x.w.Calm(1)
		for i := 1; i <= 4; i++ {
			x.w.Crash(i)
			if free, needed, idle := x.w.Counts(i); free != 64 || needed != 0 || idle != 0 || len(x.w.Pages(i)) != 0 {
				t.Fatalf("node %d: %d, %d, %d", i, free, needed, idle)
			}
			for to := range 5 {
				if l := x.w.Believers(to); slices.Contains(l, i) {
					t.Fatalf("node %d, which is down, believes in %d", i, to)
				}
			}
		}
		x.check()
	}
	x.w.Calm(30)
	if e, _ := x.w.Entry(0); e.End != router.Open {
		t.Errorf("it ended without those that worked on it: %v", e)
	}
	x.allSaid(180)
}
