package fleet_test

import (
	"slices"
	"testing"

	"tiller/api"
	"tiller/fleet"
	"tiller/router"
)

// The second example of the whole: a prompt that begins like one ahead goes to the node that worked on that, where its pages are.
func TestAlike(t *testing.T) {
	x := watched(t, fleet.Plain(small(), 17), "alike")
	for _, prompt := range [][]int{{1, 2, 3, 4}, {5, 2, 3, 4}, {5, 2, 3, 4, 1}, {1, 2, 3, 4, 6, 6}} {
		x.w.Submit(prompt, 5)
	}
	var to []int
	for req := range 4 {
		e, _ := x.w.Entry(req)
		to = append(to, e.Order.Prefill)
	}
	if !slices.Equal(to, []int{1, 2, 2, 1}) {
		x.fail("to %v", to)
	}
	x.allSaid(100)
	if len(x.w.Pages(1)) != 3 || len(x.w.Pages(2)) != 2 {
		x.fail("%d and %d pages are kept", len(x.w.Pages(1)), len(x.w.Pages(2)))
	}
}

// The third example of the whole: who goes on crashes, and the request is tried anew behind Wait ticks, with other nodes.
func TestOthers(t *testing.T) {
	x := watched(t, fleet.Plain(small(), 17), "others")
	x.w.Submit([]int{1, 2, 3}, 6)
	isRunning := func() bool {
		_, needed, _ := x.w.Counts(3)
		return needed > 0
	}
	x.until(isRunning, func() { x.w.Calm(1) })
	x.w.Crash(3)
	x.w.Calm(40)
	if e, _ := x.w.Entry(0); e.End != router.Open || e.Order != (router.Order{Prefill: 1, Decode: 3}) {
		x.fail("ahead of its time: %v", e)
	}
	x.allSaid(30)
	if e, _ := x.w.Entry(0); e.Order != (router.Order{Try: 1, Prefill: 2, Decode: 4}) || e.At != 60 {
		x.fail("tried anew: %v", e)
	}
}

// The sixth example of the whole: behind a lapse nobody is granted a place for a term of node 0's clock; epochs go on.
func TestLapse(t *testing.T) {
	x := watched(t, fleet.Plain(small(), 17), "lapse")
	epoch := 0
	for round := range 3 {
		x.w.Submit([]int{1 + round, 2, 3}, 6)
		x.until(func() bool { return x.isBelieved(3, 4) }, func() { x.w.Calm(1) })
		for to := 3; to <= 4; to++ {
			for _, who := range x.w.Believers(to) {
				now, _ := fleet.Epoch(x.w, who, to)
				if now <= epoch {
					x.fail("epoch %d behind %d", now, epoch)
				}
				epoch = now
			}
		}
		x.allSaid(50)
		x.w.Lapse()
		x.w.Submit([]int{4 + round, 2, 3}, 6)
		for range x.s.Term - 1 {
			if x.w.Calm(1); x.isBelieved(3, 4) {
				x.fail("a place is granted too soon")
			}
		}
		x.allSaid(50)
	}
}

// The seventh example of the whole: a clock drifts by more than the margin, and two nodes believe in one place; answers are right all the same.
func TestDrifted(t *testing.T) {
	s := fleet.Plain(small(), 17)
	s.Door.Decodes, s.Part = 1, 16
	x := watched(t, s, "drifted")
	x.w.Submit([]int{1, 2, 3, 4, 5, 6}, 6)
	x.w.Submit([]int{2, 2, 3, 4, 5, 6}, 6)
	x.until(func() bool { return x.isBelieved(3) }, func() {
		x.w.Tick(1)
		x.w.Deliver(0, false)
	})
	x.until(func() bool { return len(x.w.Believers(3)) == 2 }, func() { // node 1's clock stands still
		x.w.Tick(0)
		x.w.Tick(2)
		for range 3 {
			x.w.Deliver(0, false)
		}
		x.check()
	})
	if l := x.w.Believers(3); !slices.Equal(l, []int{1, 2}) || x.w.Drift() <= s.Margin {
		x.fail("with drift %d %v believe", x.w.Drift(), l)
	}
	for range 100 {
		for i := range 4 {
			x.w.Tick(i)
		}
		for range 20 {
			x.w.Deliver(0, false)
		}
		x.check()
	}
	x.allSaid(30)
}

// The eighth and the ninth example of the whole: requests that are refused.
func TestRefused(t *testing.T) {
	x := watched(t, fleet.Plain(great(), 7), "refused")
	refused := func(want api.Errno, prompt ...int) {
		t.Helper()
		if req, e := x.w.Submit(prompt, 4); e != want || req != 0 || x.w.Way() != 8 {
			t.Errorf("Submit(%v): %d, %d, not %d", prompt, req, e, want)
		}
	}
	for i := range 8 {
		if req, e := x.w.Submit([]int{63, i}, 4); req != i || e != api.OK {
			t.Fatalf("Submit: %d, %d", req, e)
		}
	}
	refused(api.ErrToken, 64)
	refused(api.ErrNone)
	refused(api.ErrFull, 1)
	x = watched(t, fleet.Plain(small(), 7), "refused")
	for i := range 8 {
		x.w.Submit([]int{i % 7}, 4)
	}
	for range 180 {
		x.w.Tick(0)
	}
	for x.w.Way() > 8 {
		x.w.Lose(0)
	}
	x.w.Drain(3)
	x.w.Drain(4)
	refused(api.ErrDown, 1)
}
