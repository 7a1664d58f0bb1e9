package router_test

import (
	"math"
	"math/rand"
	"slices"
	"testing"

	"tiller/api"
	"tiller/router"
)

// plan is a plan, its parts in the order of their names in the chapter.
func plan(prefills, decodes, table, wait, tries int) router.Plan {
	return router.Plan{Prefills: prefills, Decodes: decodes, Table: table, Wait: wait, Tries: tries}
}

// four is a configuration with the tokens 0 to 3.
func four() api.Config {
	return api.Config{Vocab: 4, Dim: 1, Heads: 1, Hidden: 1, Layers: 1}
}

// made is a door that New makes without an error.
func made(t *testing.T, c api.Config, p router.Plan) *router.Router {
	t.Helper()
	r, e := router.New(c, p)
	if e != api.OK || r == nil {
		t.Fatalf("New(%v): %d", p, e)
	}
	return r
}

// planError is the chapter's error of a plan.
func planError(p router.Plan) api.Errno {
	if min(p.Prefills, p.Decodes, p.Table, p.Wait, p.Tries) < 1 {
		return api.ErrArg
	}
	if p.Prefills >= 8 || p.Decodes >= 8 || p.Prefills+p.Decodes >= 8 || p.Table > 64 || p.Wait > 1<<20 || p.Tries > 16 {
		return api.ErrBig
	}
	return api.OK
}

// P24.1: Check and New of every choice of numbers about the bounds, whatever the configuration.
func TestCheck(t *testing.T) {
	nodes := []int{math.MinInt, -1, 0, 1, 2, 3, 4, 5, 6, 7, 8, math.MaxInt - 1, math.MaxInt}
	for _, prefills := range nodes {
		for _, decodes := range nodes {
			for _, table := range []int{math.MinInt, -1, 0, 1, 63, 64, 65, math.MaxInt} {
				for _, wait := range []int{math.MinInt, 0, 1, 1 << 20, 1<<20 + 1, math.MaxInt} {
					for _, tries := range []int{math.MinInt, 0, 1, 16, 17, math.MaxInt} {
						checkPlan(t, plan(prefills, decodes, table, wait, tries))
					}
				}
			}
		}
	}
}

// checkPlan holds Check and New of a plan against the chapter.
func checkPlan(t *testing.T, p router.Plan) {
	t.Helper()
	want := planError(p)
	if e := router.Check(p); e != want {
		t.Fatalf("Check(%v): %d, not %d", p, e, want)
	}
	for _, c := range []api.Config{four(), {}, {Vocab: math.MaxInt, Dim: -1}} {
		r, e := router.New(c, p)
		if e != want || (r == nil) != (want != api.OK) {
			t.Fatalf("New(%v, %v): %v, %d, not %d", c, p, r, e, want)
		}
		if r != nil && (r.Open() != 0 || r.Count() != 0) {
			t.Fatalf("New(%v, %v): requests that nobody made", c, p)
		}
	}
}

// agree holds all that is told of a door against the book.
func agree(t *testing.T, r *router.Router, k *book, calls []call) {
	t.Helper()
	if r.Open() != k.open() || r.Count() != len(k.entries) || r.Open() > k.p.Table {
		t.Fatalf("behind %v: Open %d, Count %d, not %d, %d", calls, r.Open(), r.Count(), k.open(), len(k.entries))
	}
	for req := range k.entries {
		if x, ok := r.Get(req); !ok || !sameEntry(x, k.entries[req]) {
			t.Fatalf("behind %v: Get(%d): %v, %v, not %v", calls, req, x, ok, k.entries[req])
		}
	}
	for _, req := range []int{math.MinInt, -1, len(k.entries), math.MaxInt} {
		if x, ok := r.Get(req); ok || !sameEntry(x, router.Entry{}) {
			t.Fatalf("behind %v: Get(%d): %v, %v", calls, req, x, ok)
		}
	}
}

// play holds each of some calls of a new door, and all that is told behind it, against the book.
func play(t *testing.T, c api.Config, p router.Plan, calls []call) {
	t.Helper()
	r, k := made(t, c, p), newBook(c, p)
	for i, x := range calls {
		if a, want := ask(r, x), k.ask(x); !alike(a, want) {
			t.Fatalf("%v behind %v: %v, not %v", x, calls[:i], a, want)
		}
		agree(t, r, k, calls[:i+1])
	}
}

// P24.1, P24.2: every row of five of these calls, in a fleet of one node and of two nodes of either kind.
func TestRows(t *testing.T) {
	few := []call{
		{name: "Submit", now: 1, prompt: []int{1}, most: 1},
		{name: "Submit", now: 2, prompt: []int{1, 2}, most: 2},
		{name: "Submit", prompt: []int{2}, most: 2},
		{name: "Tick", now: 3},
		{name: "Tick", now: 6},
		{name: "Done", req: 0, try: 0, tokens: []int{3, 0}},
		{name: "Done", req: 1, try: 1},
		{name: "Drain", node: 1},
		{name: "Drain", node: 2},
		{name: "Join", node: 1},
	}
	for _, p := range []router.Plan{plan(1, 1, 2, 2, 2), plan(2, 2, 2, 3, 2)} {
		for n := range len(few) * len(few) * len(few) * len(few) * len(few) {
			var calls []call
			for range 5 {
				calls = append(calls, few[n%len(few)])
				n /= len(few)
			}
			play(t, four(), p, calls)
		}
	}
}

// anyPrompt is a prompt, mostly a good one, of which many begin alike.
func anyPrompt(rnd *rand.Rand) []int {
	if rnd.Intn(12) == 0 {
		bad := [][]int{nil, {}, {4}, {-1}, {1, 2, math.MaxInt}, {math.MinInt, 1}, make([]int, 128), make([]int, 129), make([]int, 127)}
		return bad[rnd.Intn(len(bad))]
	}
	l := make([]int, 1+rnd.Intn(4))
	for i := range l {
		l[i] = rnd.Intn(3)
	}
	return l
}

// among is one of some numbers.
func among(rnd *rand.Rand, l ...int) int {
	return l[rnd.Intn(len(l))]
}

// anyCall is any call of a door that has that many requests, at about this moment.
func anyCall(rnd *rand.Rand, now, count int) call {
	odd := rnd.Intn(8) == 0
	switch rnd.Intn(12) {
	case 0, 1, 2, 3:
		x := call{name: "Submit", now: now, prompt: anyPrompt(rnd), most: 1 + rnd.Intn(9)}
		if odd {
			x.now = among(rnd, math.MinInt, -1, 0, 1, 1<<40-1, 1<<40, 1<<40+1, math.MaxInt)
		} else if rnd.Intn(12) == 0 {
			x.most = among(rnd, math.MinInt, -1, 0, 1, 124, 125, 126, 127, 128, math.MaxInt)
		}
		return x
	case 4, 5, 6:
		if odd && rnd.Intn(8) == 0 {
			return call{name: "Tick", now: among(rnd, math.MinInt, math.MinInt+1, math.MinInt+7, -8, -1, 0, 1<<40, math.MaxInt-3, math.MaxInt)}
		}
		return call{name: "Tick", now: now + among(rnd, -2, 0, 0, 1, 1, 2, 5)}
	case 7, 8, 9:
		x := call{name: "Done", req: max(0, count-1-rnd.Intn(5)), try: rnd.Intn(3), tokens: []int{rnd.Intn(9), rnd.Intn(9)}[:rnd.Intn(3)]}
		if odd {
			x.req = among(rnd, math.MinInt, -1, 0, count-1, count, math.MaxInt)
			x.try = among(rnd, math.MinInt, -1, 0, 1, 2, math.MaxInt)
		}
		return x
	case 10:
		return call{name: "Drain", node: among(rnd, 0, 1, 2, 3, 4, 5, -1, 8, math.MinInt, math.MaxInt)}
	}
	return call{name: "Join", node: among(rnd, 0, 1, 1, 2, 2, 3, 3, 4, 4, 5, 5, 6, 7, -1, 8, math.MinInt, math.MaxInt)}
}

// P24.1, P24.2: long rows of any calls, in fleets of every size.
func TestCalls(t *testing.T) {
	for seed := range int64(600) {
		rnd := rand.New(rand.NewSource(seed))
		prefills := 1 + rnd.Intn(6)
		p := plan(prefills, 1+rnd.Intn(7-prefills), 1+rnd.Intn(6), 1+rnd.Intn(6), 1+rnd.Intn(4))
		r, k := made(t, four(), p), newBook(four(), p)
		var ended []router.Entry // as they were first seen to have ended, by their numbers
		now := 0
		for range 150 {
			x := anyCall(rnd, now, len(k.entries))
			now += rnd.Intn(2)
			if a, want := ask(r, x), k.ask(x); !alike(a, want) {
				t.Fatalf("seed %d: %v: %v, not %v", seed, x, a, want)
			}
			agree(t, r, k, []call{x})
			ended = stayEnded(t, r, ended)
		}
	}
}

// stayEnded tells an error, if a request that has ended isn't as it ended; all that have, by their numbers.
func stayEnded(t *testing.T, r *router.Router, ended []router.Entry) []router.Entry {
	t.Helper()
	for req := range r.Count() {
		x, _ := r.Get(req)
		if req == len(ended) {
			ended = append(ended, router.Entry{})
		}
		if was := ended[req]; was.End != router.Open && !sameEntry(x, was) {
			t.Fatalf("request %d: %v, it had ended as %v", req, x, was)
		}
		if x.End != router.Open {
			ended[req] = x
		}
	}
	return ended
}

// P24.3: behind Tries times Wait ticks that go on by one each no request that was open is open.
func TestEnd(t *testing.T) {
	for seed := range int64(300) {
		rnd := rand.New(rand.NewSource(seed))
		p := plan(2, 2, 1+rnd.Intn(64), 1+rnd.Intn(20), 1+rnd.Intn(16))
		r := made(t, four(), p)
		now := rnd.Intn(1 << 20)
		for range 60 {
			r.Submit(now, []int{rnd.Intn(4)}, 1)
			if rnd.Intn(3) == 0 {
				now++
				r.Tick(now)
			}
			if rnd.Intn(9) == 0 {
				r.Drain(rnd.Intn(5))
			}
		}
		for range p.Tries * p.Wait {
			now++
			r.Tick(now)
		}
		for req := range r.Count() {
			if x, _ := r.Get(req); x.End != router.Failed || len(x.Answer) != 0 {
				t.Fatalf("seed %d: request %d: %v", seed, req, x)
			}
		}
		if r.Open() != 0 {
			t.Fatalf("seed %d: %d are open", seed, r.Open())
		}
	}
}

// P24.1: a request is tried at each Wait ticks, Tries times, and is open until just Tries times Wait ticks are over; also if nobody is there to be named.
func TestTries(t *testing.T) {
	for _, p := range []router.Plan{plan(1, 1, 1, 1, 1), plan(1, 2, 1, 1, 3), plan(2, 1, 2, 7, 1), plan(2, 3, 2, 5, 4), plan(1, 1, 1, 3, 16)} {
		for _, drained := range []bool{false, true} {
			r := made(t, four(), p)
			r.Submit(100, []int{1}, 1)
			if drained {
				r.Drain(1 + p.Prefills)
				r.Drain(2 + p.Prefills)
				r.Drain(3 + p.Prefills)
			}
			for tick := 1; tick <= p.Tries*p.Wait; tick++ {
				orders, failed := r.Tick(100 + tick)
				x, _ := r.Get(0)
				isTried, isOver := tick%p.Wait == 0 && tick < p.Tries*p.Wait, tick == p.Tries*p.Wait
				if len(orders) == 1 != (isTried && !drained) || len(failed) == 1 != isOver || x.Order.Try != min(tick/p.Wait, p.Tries-1) || (x.End == router.Failed) != isOver || r.Open() == 0 != isOver {
					t.Fatalf("%v, drained %v, tick %d: %v, %v, %v", p, drained, tick, orders, failed, x)
				}
				if named := x.Order.Prefill > 0 && x.Order.Decode > 0; named == (drained && x.Order.Try > 0) {
					t.Fatalf("%v, drained %v, tick %d: its order is %v", p, drained, tick, x.Order)
				}
			}
		}
	}
}

// The chapter's example: three unlike prompts go to 1, 2, 1, and one that begins with the second one to 2.
func TestExample(t *testing.T) {
	r := made(t, four(), plan(2, 1, 9, 5, 2))
	var to []int
	for _, prompt := range [][]int{{1}, {2, 3}, {3}, {2, 3, 1}} {
		o, e := r.Submit(0, prompt, 4)
		if e != api.OK || o.Decode != 3 {
			t.Errorf("Submit(%v): %v, %d", prompt, o, e)
		}
		to = append(to, o.Prefill)
	}
	if !slices.Equal(to, []int{1, 2, 1, 2}) {
		t.Errorf("to %v", to)
	}
}
