package fleet_test

import (
	"math/rand"
	"testing"

	"tiller/api"
	"tiller/fleet"
	"tiller/router"
)

// ends holds a fleet against P25.5.
func (x *watch) ends() {
	x.t.Helper()
	long := x.s.Door.Tries * x.s.Door.Wait
	x.w.Calm(long)
	x.check()
	if _, open := x.w.Requests(); open != 0 {
		x.fail("%d are open in the end", open)
	}
	x.w.Calm(long + 700)
	x.check()
	for i := x.s.Door.Prefills + 1; i < x.w.Nodes(); i++ {
		if _, needed, _ := x.w.Counts(i); needed != 0 {
			x.fail("%d pages of node %d are needed in the end", needed, i)
		}
	}
}

// P25.5: behind any calls, in any fleet.
func TestEnd(t *testing.T) {
	for seed := range int64(400) {
		rnd := rand.New(rand.NewSource(seed))
		x := watched(t, anySetup(rnd), "seed %d", seed)
		m := anyMood(rnd)
		for range 150 {
			x.anyCall(rnd, m, bounds{6, 5, 3})
		}
		x.ends()
	}
}

// P25.5: behind as many requests as nodes take, in fleets that work slowly and of which one or the other is scarce.
func TestEndCrowded(t *testing.T) {
	for seed := range int64(60) {
		rnd := rand.New(rand.NewSource(seed))
		s := anySetup(rnd)
		s.Model, s.Seed = small(), 7
		s.Door.Table, s.Queue, s.Rate = 64, 64, 1
		s.Door.Prefills, s.Door.Decodes, s.Door.Wait, s.Door.Tries = 1+rnd.Intn(3), 1+rnd.Intn(2), 1+rnd.Intn(9), 1+rnd.Intn(2)
		x := watched(t, s, "seed %d", seed)
		for range 100 {
			for range 5 {
				x.w.Submit([]int{1, 2, 3, 4, 5, rnd.Intn(7)}[rnd.Intn(3):], 5)
			}
			for range 3 {
				x.w.Tick(rnd.Intn(x.w.Nodes()))
				x.w.Deliver(0, rnd.Intn(9) == 0)
				x.w.Deliver(0, false)
			}
			x.w.Tick(0)
		}
		x.check()
		x.ends()
	}
}

// P25.6: in the plain fleet up to four requests are all Completed behind 100 rounds of Calm.
func TestWithoutFailures(t *testing.T) {
	for seed := range int64(300) {
		rnd := rand.New(rand.NewSource(seed))
		c := small()
		if seed%60 == 0 {
			c = great()
		}
		x := watched(t, fleet.Plain(c, rnd.Uint64()), "seed %d", seed)
		for n := range 1 + rnd.Intn(4) {
			prompt := anyTokens(rnd, c.Vocab, 6)
			if rnd.Intn(3) == 0 {
				prompt = []int{1, 2, 3, 1, 2, 3}
			}
			if req, e := x.w.Submit(prompt, 1+rnd.Intn(6)); req != n || e != api.OK {
				x.fail("Submit(%v): %d, %d", prompt, req, e)
			}
		}
		x.allSaid(100)
	}
}

// allSaid tells an error, if not all requests are Completed behind so many rounds of Calm, just as the model says.
func (x *watch) allSaid(rounds int) {
	x.t.Helper()
	x.w.Calm(rounds)
	x.check()
	count, _ := x.w.Requests()
	for req := range count {
		if e, _ := x.w.Entry(req); e.End != router.Completed {
			x.fail("request %d behind %d rounds of Calm: %v", req, rounds, e)
		}
	}
	if x.w.Way() != 0 {
		x.fail("%d frames are on their way", x.w.Way())
	}
}

// P25.7: one request, while both nodes that go on crash behind each of some rounds of Calm.
func TestTriedAnew(t *testing.T) {
	for crashes := range 21 {
		for seed := range int64(40) {
			rnd := rand.New(rand.NewSource(seed))
			c := small()
			if seed == 0 && crashes%7 == 5 {
				c = great()
			}
			x := watched(t, fleet.Plain(c, rnd.Uint64()), "seed %d, %d crashes", seed, crashes)
			x.w.Submit(anyTokens(rnd, c.Vocab, 6), 1+rnd.Intn(6))
			for range crashes {
				x.w.Calm(1)
				if x.w.Crash(3) != api.OK || x.w.Crash(4) != api.OK {
					x.fail("no crash")
				}
				x.check()
			}
			x.allSaid(180)
		}
	}
}

// P25.8: behind any 80 calls, and a while, the plain fleet takes a request, and says what the model says.
func TestLater(t *testing.T) {
	for seed := range int64(600) {
		rnd := rand.New(rand.NewSource(seed))
		x := watched(t, fleet.Plain(small(), rnd.Uint64()), "seed %d", seed)
		m := anyMood(rnd)
		for range rnd.Intn(81) {
			x.anyCall(rnd, m, bounds{6, 5, 30})
		}
		x.later(rnd)
	}
}

// later holds a plain fleet behind some calls against P25.8.
func (x *watch) later(rnd *rand.Rand) {
	x.t.Helper()
	x.w.Calm(200)
	x.check()
	if x.w.Way() != 0 {
		x.fail("%d frames are on their way", x.w.Way())
	}
	x.w.Calm(40)
	req, e := x.w.Submit(anyTokens(rnd, x.s.Model.Vocab, 6), 1+rnd.Intn(5))
	if e != api.OK {
		x.fail("a later request: %d", e)
	}
	x.w.Calm(100)
	x.check()
	if e, _ := x.w.Entry(req); e.End != router.Completed {
		x.fail("a later request: %v", e)
	}
}

// P25.8: behind 80 calls of one kind or two that do the most harm.
func TestLaterHarmed(t *testing.T) {
	harms := []func(x *watch, i int){
		func(x *watch, i int) { x.w.Tick(0) },
		func(x *watch, i int) { x.w.Tick(1) },
		func(x *watch, i int) { x.w.Tick(3) },
		func(x *watch, i int) { x.w.Tick(1 + i%4) },
		func(x *watch, i int) { x.w.Lapse() },
		func(x *watch, i int) { x.w.Deliver(0, true) },
		func(x *watch, i int) { x.w.Calm(1); x.w.Lapse() },
		func(x *watch, i int) { x.w.Crash(1 + i%4) },
		func(x *watch, i int) { x.w.Crash(1 + i%4); x.w.Calm(1) },
		func(x *watch, i int) { x.w.Start(1 + i/2%4); x.w.Crash(1 + i/2%4) },
		func(x *watch, i int) { x.w.Drain(1 + i%4) },
		func(x *watch, i int) { x.w.Lose(0); x.w.Tick(i % 5) },
		func(x *watch, i int) { x.w.Tick(i % 5); x.w.Deliver(i%9, i%2 == 0) },
		func(x *watch, i int) { x.w.Turn(i%9, 9*i, 77); x.w.Tick(i % 5) },
		func(x *watch, i int) { x.w.Submit([]int{i % 7, 1, 2, 3, 4, 5}, 5) },
	}
	for h, harm := range harms {
		for ahead := range 40 {
			rnd := rand.New(rand.NewSource(int64(ahead)))
			x := watched(t, fleet.Plain(small(), 7), "harm %d, %d ahead", h, ahead)
			for i := range ahead {
				if i%3 == 0 {
					x.w.Submit(anyTokens(rnd, 7, 6), 5)
				} else if i%3 == 1 {
					x.w.Calm(1)
				} else {
					x.w.Tick(i % 5)
				}
			}
			for i := range 40 {
				harm(x, i)
			}
			x.later(rnd)
		}
	}
}
