package fleet_test

import (
	"math/rand"
	"testing"

	"tiller/api"
	"tiller/clock"
	"tiller/fleet"
	"tiller/router"
)

// among is one of some numbers.
func among(rnd *rand.Rand, l ...int) int {
	return l[rnd.Intn(len(l))]
}

// anySetup is a setup that is right, of small numbers and of some about the bounds.
func anySetup(rnd *rand.Rand) fleet.Setup {
	prefills := 1 + rnd.Intn(4)
	return fleet.Setup{
		Model: api.Config{Vocab: 2 + rnd.Intn(6), Dim: 2, Heads: 1 + rnd.Intn(2), Hidden: 1 + rnd.Intn(4), Layers: 1 + rnd.Intn(2)},
		Seed:  rnd.Uint64(),
		Door:  router.Plan{Prefills: prefills, Decodes: 1 + rnd.Intn(7-prefills), Table: among(rnd, 1, 3, 8, 64), Wait: among(rnd, 1, 4, 10, 30, 60), Tries: among(rnd, 1, 2, 3, 5, 16)},
		Page:  among(rnd, 1, 2, 3, 16), Pages: among(rnd, 1, 4, 10, 64), Rate: among(rnd, 1, 2, 4, 128),
		Queue: among(rnd, 1, 3, 8, 64), Slots: among(rnd, 1, 2, 4, 64),
		Part: among(rnd, 1, 16, 50, 256, 4096),
		Term: among(rnd, 1, 3, 8, 20, 1<<20), Margin: among(rnd, 0, 0, 1, 2, 5),
	}
}

// P25.2 to P25.4: long rows of any calls, in any fleet.
func TestRows(t *testing.T) {
	said, shared := 0, 0
	for seed := range int64(400) {
		rnd := rand.New(rand.NewSource(seed))
		x := watched(t, anySetup(rnd), "seed %d", seed)
		m := anyMood(rnd)
		for range 250 {
			x.anyCall(rnd, m, bounds{6, 8, 3})
			x.check()
		}
		for range 40 {
			x.w.Submit(anyTokens(rnd, x.s.Model.Vocab, 6), 1+rnd.Intn(8))
			x.w.Calm(1)
			x.check()
		}
		said, shared = said+x.said, shared+x.shared
	}
	if said < 1000 || shared < 1000 {
		t.Errorf("%d were Completed, a place was believed in %d times: too few to tell", said, shared)
	}
}

// P25.2, P25.3: long rows of any calls in the plain fleet, with prompts that are longer than a row of parts at once.
func TestRowsPlain(t *testing.T) {
	said := 0
	for seed := range int64(60) {
		rnd := rand.New(rand.NewSource(seed))
		s := fleet.Plain(small(), rnd.Uint64())
		s.Part = among(rnd, 16, 64, 256)
		x := watched(t, s, "seed %d", seed)
		m := anyMood(rnd)
		for range 400 {
			x.anyCall(rnd, m, bounds{40, 60, 20})
			x.check()
		}
		for range 100 {
			x.w.Calm(1)
			x.check()
		}
		said += x.said
	}
	if said < 300 {
		t.Errorf("%d were Completed: too few to tell", said)
	}
}

// steady ticks a node by which clocks keep to a drift, and notes it in clocks of the test's own.
func steady(rnd *rand.Rand, x *watch, clocks *clock.Clocks, drift int) {
	for {
		i, after := rnd.Intn(x.w.Nodes()), clocks.Copy()
		after.Tick(i)
		if after.Worst() > drift {
			continue
		}
		clocks.Tick(i)
		x.w.Tick(i)
		return
	}
}

// P25.4: as long as clocks keep to the margin at most one node believes in a place, whatever is lost, late, comes twice, whoever crashes, and however often the authority begins anew.
func TestLeases(t *testing.T) {
	shared := 0
	for seed := range int64(300) {
		rnd := rand.New(rand.NewSource(seed))
		s := fleet.Plain(small(), 7)
		s.Door.Prefills, s.Door.Decodes, s.Door.Wait = 2+rnd.Intn(4), 1+rnd.Intn(2), 5+rnd.Intn(20)
		s.Margin = 1 + rnd.Intn(3) // a single tick is a drift of 1
		s.Term = s.Margin + 1 + rnd.Intn(12)
		s.Part = among(rnd, 8, 30, 256)
		x := watched(t, s, "seed %d", seed)
		clocks, _ := clock.New(x.w.Nodes())
		m := anyMood(rnd)
		m[1], m[9], m[12] = 0, rnd.Intn(2), 0 // clocks go on by steady alone
		for range 400 {
			steady(rnd, x, clocks, s.Margin)
			for range rnd.Intn(5) {
				x.anyCall(rnd, m, bounds{6, 6, 0})
			}
			if x.w.Drift() > s.Margin || x.w.Drift() != clocks.Worst() {
				x.fail("Drift %d, not %d", x.w.Drift(), clocks.Worst())
			}
			x.check()
		}
		shared += x.shared
	}
	if shared < 5000 {
		t.Errorf("a place was believed in %d times: too few to tell", shared)
	}
}
