package router_test

import (
	"slices"
	"testing"

	"tiller/router"
)

// roomy is the same row with spare room behind it, filled with 77.
func roomy(row ...int) []int {
	return append(slices.Clone(row), 77, 77, 77)[:len(row)]
}

// stays tells whether a roomy row, and the room behind it, is as it was.
func stays(row []int, was ...int) bool {
	return slices.Equal(row, was) && slices.Equal(row[len(row):len(row)+3], []int{77, 77, 77})
}

// wipe makes another row of a row, and of the room behind it.
func wipe(row []int) {
	row = row[:cap(row)]
	for i := range row {
		row[i] = 2
	}
}

// P24.4: prompts and tokens that are handed in aren't changed, nor kept: they may be other ones later on, in Entries and in what is kept for later prompts.
func TestHandedIn(t *testing.T) {
	r := made(t, four(), plan(2, 2, 3, 5, 3))
	prompt, tokens := roomy(1, 3), roomy(3, 1, 0)
	r.Submit(0, prompt, 4)
	r.Submit(0, roomy(), 4)
	r.Tick(5)
	r.Done(0, 0, tokens)
	r.Done(0, 0, tokens)
	if !stays(prompt, 1, 3) || !stays(tokens, 3, 1, 0) {
		t.Fatalf("changed: %v, %v", prompt, tokens)
	}
	wipe(prompt)
	wipe(tokens)
	if x, _ := r.Get(0); !slices.Equal(x.Prompt, []int{1, 3}) || !slices.Equal(x.Answer, []int{3, 1, 0}) {
		t.Errorf("kept: %v", x)
	}
	isPlaced(t, "1, 3, 3: who worked on 1, 3 last", taken(t, r, 6, 1, 3, 3), 2, 3)
	isPlaced(t, "2, 2: nobody worked on it", taken(t, r, 6, 2, 2), 1, 4)
}

// P24.4: a prompt that is handed in may be another one while its request is open: its tries are of what it was.
func TestHandedInOpen(t *testing.T) {
	r := made(t, four(), plan(2, 2, 3, 5, 3))
	prompt := roomy(1, 3)
	r.Submit(0, prompt, 4)
	wipe(prompt)
	if orders, _ := r.Tick(5); len(orders) != 1 || orders[0].Prefill != 2 {
		t.Fatalf("Tick: %v", orders)
	}
	isPlaced(t, "2, 2: nobody worked on it", taken(t, r, 5, 2, 2), 1, 3)
	isPlaced(t, "1, 3", taken(t, r, 5, 1, 3), 2, 4)
}

// P24.4: answers are new memory: a change of them changes no later answer, nor another one.
func TestAnswers(t *testing.T) {
	r := made(t, four(), plan(2, 2, 9, 5, 3))
	r.Submit(0, []int{1, 3}, 4)
	r.Submit(0, []int{3, 1, 1}, 4)
	r.Submit(0, []int{3}, 4)
	r.Done(1, 0, []int{2, 3})
	was := map[int]router.Entry{}
	for req := range 3 {
		was[req], _ = r.Get(req)
	}
	for req := range 3 {
		x, _ := r.Get(req)
		wipe(x.Prompt)
		wipe(x.Answer)
	}
	for req := range 3 {
		if x, _ := r.Get(req); !sameEntry(x, was[req]) {
			t.Errorf("request %d: %v, it was %v", req, x, was[req])
		}
	}
	orders, _ := r.Tick(5)
	for i := range orders {
		orders[i] = router.Order{Req: 9, Try: 9, Prefill: 9, Decode: 9}
	}
	if x, _ := r.Get(0); x.Order != (router.Order{Try: 1, Prefill: 2, Decode: 4}) {
		t.Errorf("an order that was answered changed: %v", x)
	}
	r.Tick(10)
	_, failed := r.Tick(15)
	_, again := r.Tick(20)
	wipe(failed)
	if len(again) != 0 || r.Open() != 0 || r.Count() != 3 {
		t.Errorf("failed twice: %v", again)
	}
	isPlaced(t, "2: nobody worked on it", taken(t, r, 20, 2), 2, 4)
}

// Doors are by themselves: what one is asked changes nothing of another one.
func TestApart(t *testing.T) {
	p := plan(2, 2, 3, 5, 3)
	a, b := made(t, four(), p), made(t, four(), p)
	taken(t, a, 0, 1)
	a.Drain(2)
	if b.Count() != 0 || b.Open() != 0 {
		t.Error("another door has the request")
	}
	isPlaced(t, "1 at another door", taken(t, b, 0, 2), 1, 3)
	isPlaced(t, "2 at another door", taken(t, b, 0, 1), 2, 4)
}
