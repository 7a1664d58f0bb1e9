package fleet_test

import (
	"fmt"
	"math/rand"
	"testing"

	"tiller/fleet"
	"tiller/net"
)

// seen is all that a fleet tells of itself.
func seen(w *fleet.World) string {
	count, open := w.Requests()
	s := fmt.Sprint(count, open, w.Way(), w.Drift(), kinds(w))
	for req := range count {
		e, _ := w.Entry(req)
		s += fmt.Sprint(e)
	}
	for i := range w.Nodes() {
		free, needed, idle := w.Counts(i)
		s += fmt.Sprint(w.Believers(i), w.Pages(i), free, needed, idle)
	}
	return s
}

// twins are two fleets of one setup behind the same calls.
func twins(t *testing.T, rnd *rand.Rand, seed int64, calls int) (*watch, *watch) {
	s := anySetup(rnd)
	s.Term = max(s.Term, s.Margin+2)
	a, b := watched(t, s, "seed %d", seed), watched(t, s, "seed %d", seed)
	m, row := anyMood(rnd), rnd.Int63()
	for _, x := range []*watch{a, b} {
		same := rand.New(rand.NewSource(row))
		for range calls {
			x.anyCall(same, m, bounds{6, 6, 3})
		}
	}
	return a, b
}

// goAlike tells an error, if two fleets don't tell the same of themselves behind some more calls, each of both.
func goAlike(a, b *watch, rnd *rand.Rand, what string) {
	a.t.Helper()
	m, row := anyMood(rnd), rnd.Int63()
	first, second := rand.New(rand.NewSource(row)), rand.New(rand.NewSource(row))
	for i := range 40 {
		if seen(a.w) != seen(b.w) {
			a.fail("%s: %d calls later: %s and %s", what, i, seen(a.w), seen(b.w))
		}
		a.anyCall(first, m, bounds{6, 6, 3})
		b.anyCall(second, m, bounds{6, 6, 3})
	}
}

// K4: the same calls are answered in the same way.
func TestSame(t *testing.T) {
	for seed := range int64(60) {
		rnd := rand.New(rand.NewSource(seed))
		a, b := twins(t, rnd, seed, 120)
		goAlike(a, b, rnd, "the same calls")
	}
}

// likeLost tells an error, if a frame that comes, behind what ready makes of both fleets, does otherwise than one that is lost. (Ready says no where there is nothing to be told.)
func likeLost(t *testing.T, what string, ready func(rnd *rand.Rand, a, b *fleet.World, at int, p net.Parcel) bool) {
	t.Helper()
	count := 0
	for seed := range int64(400) {
		rnd := rand.New(rand.NewSource(seed))
		a, b := twins(t, rnd, seed, 60+int(seed)%60)
		if a.w.Way() == 0 {
			continue
		}
		at := rnd.Intn(a.w.Way())
		if !ready(rnd, a.w, b.w, at, fleet.Parcels(a.w)[at]) {
			continue
		}
		a.w.Deliver(at, false)
		b.w.Lose(at)
		goAlike(a, b, rnd, what)
		count++
	}
	if count < 40 {
		t.Errorf("%d frames: too few to tell", count)
	}
}

// A frame of which bits were turned does nothing when it comes.
func TestTurned(t *testing.T) {
	likeLost(t, "turned", func(rnd *rand.Rand, a, _ *fleet.World, at int, p net.Parcel) bool {
		a.Turn(at, rnd.Intn(8*len(p.Frame)), 1|rnd.Uint32())
		return !p.Turned
	})
}

// A message that was sent in an elder life of its sender does nothing, whether or not that is up.
func TestElderLife(t *testing.T) {
	likeLost(t, "of an elder life", func(rnd *rand.Rand, a, b *fleet.World, at int, p net.Parcel) bool {
		from, up := read(p).From, rnd.Intn(2) == 0
		for _, w := range []*fleet.World{a, b} {
			w.Start(from)
			w.Crash(from)
			if up {
				w.Start(from)
			}
		}
		return from != 0
	})
}

// What comes to a node that is down does nothing.
func TestDown(t *testing.T) {
	likeLost(t, "to a node that is down", func(_ *rand.Rand, a, b *fleet.World, at int, p net.Parcel) bool {
		a.Crash(p.To)
		b.Crash(p.To)
		return p.To != 0
	})
}
