package fleet_test

import (
	"fmt"
	"slices"
	"testing"

	"tiller/fleet"
)

// wipe makes another row of a row, and of the room behind it.
func wipe(row []int) {
	row = row[:cap(row)]
	for i := range row {
		row[i] = 6
	}
}

// K3: a prompt that is handed in isn't changed, nor the room behind it, nor kept: it may be another one at any moment later on.
func TestHandedIn(t *testing.T) {
	for rounds := range 8 {
		x := watched(t, fleet.Plain(small(), 17), "%d rounds", rounds)
		prompt := append([]int{1, 4, 2, 5, 3, 1}, 77, 77, 77)[:6]
		x.w.Submit(prompt, 6)
		x.w.Submit(prompt[:3], 0)
		x.w.Calm(rounds)
		if !slices.Equal(prompt[:9], []int{1, 4, 2, 5, 3, 1, 77, 77, 77}) {
			x.fail("the prompt is %v", prompt[:9])
		}
		wipe(prompt)
		x.w.Crash(3) // it is tried anew, of what it was
		x.w.Crash(4)
		x.allSaid(180)
		if e, _ := x.w.Entry(0); !slices.Equal(e.Prompt, []int{1, 4, 2, 5, 3, 1}) {
			x.fail("the prompt is kept: %v", e)
		}
		if !slices.Equal(prompt[:9], []int{6, 6, 6, 6, 6, 6, 6, 6, 6}) {
			x.fail("the prompt was changed later on: %v", prompt[:9])
		}
	}
}

// K3: answers are new memory: whatever is done to them, a fleet goes on as one of which nothing was asked.
func TestAnswers(t *testing.T) {
	x, other := watched(t, fleet.Plain(small(), 17), "answers"), watched(t, fleet.Plain(small(), 17), "answers")
	for round := range 30 {
		if round%4 == 0 {
			x.w.Submit([]int{1, 4, 2, 5, 3, round % 7}, 6)
			other.w.Submit([]int{1, 4, 2, 5, 3, round % 7}, 6)
		}
		x.w.Calm(1)
		other.w.Calm(1)
		spoil(x.w)
		if a, b := seen(x.w), seen(other.w); a != b {
			x.fail("%s, not %s", a, b)
		}
		x.check()
	}
}

// spoil makes others of all that a fleet answers.
func spoil(w *fleet.World) {
	count, _ := w.Requests()
	for req := range count {
		e, _ := w.Entry(req)
		wipe(e.Prompt)
		wipe(e.Answer)
	}
	for i := range w.Nodes() {
		wipe(w.Believers(i))
		for _, b := range w.Pages(i) {
			wipe(b.Tokens)
			for _, lists := range append(b.Cache.Keys, b.Cache.Vals...) {
				for _, row := range lists {
					clear(row[:cap(row)])
				}
			}
		}
	}
}

// Fleets are by themselves: what one is asked changes nothing of another one.
func TestApart(t *testing.T) {
	x, other := watched(t, fleet.Plain(small(), 17), "apart"), watched(t, fleet.Plain(small(), 17), "apart")
	was := seen(other.w)
	x.w.Submit([]int{1, 4}, 3)
	x.w.Calm(5)
	x.w.Crash(1)
	x.w.Drain(2)
	x.w.Lapse()
	if now := seen(other.w); now != was {
		t.Errorf("another fleet: %s, it was %s", now, was)
	}
	if e, _ := other.w.Entry(0); fmt.Sprint(e.Answer) != "[]" {
		t.Errorf("another fleet answers %v", e)
	}
}
