package router_test

import (
	"math"
	"testing"

	"tiller/api"
	"tiller/router"
)

// taken is what a request that must be taken is ordered.
func taken(t *testing.T, r *router.Router, now int, prompt ...int) router.Order {
	t.Helper()
	o, e := r.Submit(now, prompt, 1)
	if e != api.OK {
		t.Fatalf("Submit(%v): %d", prompt, e)
	}
	return o
}

// isPlaced tells an error, if an order doesn't name these nodes.
func isPlaced(t *testing.T, what string, o router.Order, prefill, decode int) {
	t.Helper()
	if o.Prefill != prefill || o.Decode != decode {
		t.Errorf("%s: %v, not %d and %d", what, o, prefill, decode)
	}
}

// P24.1: turns go round, past those that are drained, and stand behind who was named.
func TestTurns(t *testing.T) {
	r := made(t, four(), plan(3, 2, 64, 5, 2))
	isPlaced(t, "the first", taken(t, r, 0, 0, 0), 1, 4)
	isPlaced(t, "the second", taken(t, r, 0, 0, 1), 2, 5)
	isPlaced(t, "the third", taken(t, r, 0, 0, 2), 3, 4)
	isPlaced(t, "round", taken(t, r, 0, 0, 3), 1, 5)
	r.Drain(2)
	r.Drain(4)
	isPlaced(t, "past the drained", taken(t, r, 0, 1, 0), 3, 5)
	isPlaced(t, "and on", taken(t, r, 0, 1, 1), 1, 5)
	r.Join(2)
	r.Join(4)
	isPlaced(t, "joined", taken(t, r, 0, 1, 2), 2, 4)
	isPlaced(t, "and on again", taken(t, r, 0, 1, 3), 3, 5)
}

// P24.1: who is kept for the longest row that a prompt begins with works on it; the first turn stays where it stood then, the second one goes on.
func TestKept(t *testing.T) {
	r := made(t, four(), plan(3, 2, 64, 5, 2))
	isPlaced(t, "1", taken(t, r, 0, 1), 1, 4)
	isPlaced(t, "2, 2", taken(t, r, 0, 2, 2), 2, 5)
	isPlaced(t, "2, which begins with no row", taken(t, r, 0, 2), 3, 4)
	isPlaced(t, "1, 1", taken(t, r, 0, 1, 1), 1, 5)
	isPlaced(t, "2, 2, 3: the longer row", taken(t, r, 0, 2, 2, 3), 2, 4)
	isPlaced(t, "2, 3", taken(t, r, 0, 2, 3), 3, 5)
	isPlaced(t, "3: the turn stood still", taken(t, r, 0, 3), 1, 4)
	isPlaced(t, "2, 2 itself", taken(t, r, 0, 2, 2), 2, 5)
	isPlaced(t, "0", taken(t, r, 0, 0), 2, 4)
}

// P24.1: a node that is drained is kept for no row any more, also when it is joined again: a shorter row of another one, or the turn, names who works on it.
func TestKeptDrained(t *testing.T) {
	r := made(t, four(), plan(2, 1, 64, 5, 2))
	isPlaced(t, "1", taken(t, r, 0, 1), 1, 3)
	isPlaced(t, "2", taken(t, r, 0, 2), 2, 3)
	isPlaced(t, "1, 1", taken(t, r, 0, 1, 1), 1, 3)
	r.Drain(1)
	isPlaced(t, "1, 1 while 1 is drained", taken(t, r, 0, 1, 1), 2, 3)
	r.Join(1)
	isPlaced(t, "1, 1, which is kept anew", taken(t, r, 0, 1, 1, 0), 2, 3)
	isPlaced(t, "1, 2: 1 isn't kept for 1", taken(t, r, 0, 1, 2), 1, 3)
	isPlaced(t, "1, 3: it is kept for 1, 2 alone", taken(t, r, 0, 1, 3), 2, 3)
	r.Drain(2)
	r.Join(2)
	isPlaced(t, "2: it isn't kept any more, and in turn is 1", taken(t, r, 0, 2), 1, 3)
}

// P24.1: at a later try who is kept isn't looked for, but the next in turn works on it, and is kept then.
func TestKeptLater(t *testing.T) {
	r := made(t, four(), plan(3, 2, 64, 5, 3))
	isPlaced(t, "1", taken(t, r, 0, 1), 1, 4)
	isPlaced(t, "1 again", taken(t, r, 1, 1), 1, 5)
	orders, failed := r.Tick(5)
	if len(orders) != 1 || len(failed) != 0 || orders[0] != (router.Order{Req: 0, Try: 1, Prefill: 2, Decode: 4}) {
		t.Fatalf("Tick(5): %v, %v", orders, failed)
	}
	isPlaced(t, "1, 1: 2 is kept now", taken(t, r, 5, 1, 1), 2, 5)
	orders, failed = r.Tick(10)
	if len(orders) != 3 || len(failed) != 0 {
		t.Fatalf("Tick(10): %v, %v", orders, failed)
	}
	isPlaced(t, "request 0", orders[0], 3, 4)
	isPlaced(t, "request 1", orders[1], 1, 5)
	isPlaced(t, "request 2", orders[2], 2, 4)
	if orders[0].Try != 2 || orders[1].Try != 1 || orders[2].Try != 1 {
		t.Errorf("Tries: %v", orders)
	}
	isPlaced(t, "1, 0: 1, who was kept last", taken(t, r, 10, 1, 0), 1, 5)
}

// P24.1: beside ErrDown turns alone have changed: that of a kind of which all are drained stands, the other one goes on, also if nobody is there to work on the prompt; nobody is kept.
func TestDown(t *testing.T) {
	r := made(t, four(), plan(2, 2, 64, 5, 2))
	isDown := func(what string, prompt ...int) {
		t.Helper()
		count, open := r.Count(), r.Open()
		if o, e := r.Submit(0, prompt, 1); e != api.ErrDown || o != (router.Order{}) || r.Count() != count || r.Open() != open {
			t.Fatalf("%s: %v, %d", what, o, e)
		}
	}
	r.Drain(3)
	r.Drain(4)
	isDown("nobody goes on", 1)
	r.Join(3)
	r.Join(4)
	isPlaced(t, "the first turn went on, the second one stood, and nobody was kept for 1", taken(t, r, 0, 1, 1), 2, 3)
	r.Drain(1)
	r.Drain(2)
	isDown("nobody works on prompts", 2)
	r.Join(1)
	r.Join(2)
	isPlaced(t, "the second turn went on", taken(t, r, 0, 3), 1, 3)
	r.Drain(3)
	r.Drain(4)
	isDown("nobody goes on, and 1 is kept for 3", 3, 3)
	r.Join(3)
	r.Join(4)
	isPlaced(t, "the first turn stood, as 1 is kept", taken(t, r, 0, 0), 2, 4)
	for node := range 5 {
		r.Drain(node)
	}
	isDown("nobody at all", 2)
	for node := range 5 {
		r.Join(node)
	}
	isPlaced(t, "both turns stood", taken(t, r, 0, 2), 1, 3)
}

// P24.1: a try for which nobody is there names nodes 0, is no order, and counts; turns go on as at a first one.
func TestDownLater(t *testing.T) {
	r := made(t, four(), plan(2, 2, 64, 5, 4))
	isPlaced(t, "1", taken(t, r, 0, 1), 1, 3)
	r.Drain(1)
	r.Drain(2)
	for try := 1; try <= 2; try++ {
		orders, failed := r.Tick(5 * try)
		if x, _ := r.Get(0); len(orders) != 0 || len(failed) != 0 || x.Order != (router.Order{Try: try}) || x.At != 5*try || x.End != router.Open {
			t.Fatalf("try %d: %v, %v, %v", try, orders, failed, x)
		}
	}
	r.Join(1)
	orders, _ := r.Tick(15)
	if len(orders) != 1 || orders[0] != (router.Order{Try: 3, Prefill: 1, Decode: 4}) {
		t.Fatalf("the fourth try: %v", orders)
	}
	if _, failed := r.Tick(20); len(failed) != 1 || failed[0] != 0 {
		t.Fatalf("failed: %v", failed)
	}
	if x, _ := r.Get(0); x.Order != (router.Order{Try: 3, Prefill: 1, Decode: 4}) || x.At != 15 || x.End != router.Failed {
		t.Errorf("it ended as %v", x)
	}
}

// P24.1: Submit's errors, the first that the chapter names, and that nothing but turns has changed beside them.
func TestSubmitErrors(t *testing.T) {
	c, p := four(), plan(2, 2, 1, 5, 2)
	long := make([]int, 129)
	for _, now := range []int{math.MinInt, -1, 0, 1, 1<<40 - 1, 1 << 40, 1<<40 + 1, math.MaxInt} {
		for _, prompt := range [][]int{nil, {}, {1}, {3, 0}, {4}, {1, -1}, long[:127], long[:128], long} {
			for _, most := range []int{math.MinInt, -1, 0, 1, 2, 126, 127, 128, math.MaxInt} {
				for _, full := range []bool{false, true} {
					for _, down := range []bool{false, true} {
						var calls []call
						if full {
							calls = append(calls, call{name: "Submit", prompt: []int{2}, most: 1})
						}
						if down {
							calls = append(calls, call{name: "Drain", node: 1}, call{name: "Drain", node: 2})
						}
						calls = append(calls, call{name: "Submit", now: now, prompt: prompt, most: most})
						calls = append(calls, call{name: "Join", node: 1}, call{name: "Tick", now: 5}, call{name: "Done"})
						play(t, c, p, append(calls, call{name: "Submit", now: 9, prompt: []int{1}, most: 1}))
					}
				}
			}
		}
	}
}

// P24.1: of more rows than a trie takes the later ones aren't kept, and all goes on.
func TestManyRows(t *testing.T) {
	c := api.Config{Vocab: 64, Dim: 1, Heads: 1, Hidden: 1, Layers: 1}
	p := plan(3, 2, 1, 5, 2)
	r, k := made(t, c, p), newBook(c, p)
	for i := range 2500 {
		prompt := []int{i % 1100 / 64, i % 1100 % 64, i % 3}[:2+i/1100%2]
		for _, x := range []call{{name: "Submit", prompt: prompt, most: 1}, {name: "Done", req: i}} {
			if a, want := ask(r, x), k.ask(x); !alike(a, want) {
				t.Fatalf("call %d: %v: %v, not %v", i, x, a, want)
			}
		}
	}
	if len(k.rows) != 1000 {
		t.Errorf("%d rows", len(k.rows))
	}
}

// P24.1: there are at most 2^20 requests; beyond that, ErrBig, behind ErrFull and ahead of ErrDown.
func TestManyRequests(t *testing.T) {
	r := made(t, four(), plan(1, 1, 1, 5, 2))
	for i := range router.MaxRequests {
		if o, e := r.Submit(0, []int{1}, 1); e != api.OK || o.Req != i {
			t.Fatalf("request %d: %v, %d", i, o, e)
		}
		if i == router.MaxRequests-1 {
			if _, e := r.Submit(0, []int{1}, 1); e != api.ErrFull {
				t.Errorf("a full table: %d", e)
			}
		}
		r.Done(i, 0, nil)
	}
	if router.MaxRequests != 1<<20 || r.Count() != 1<<20 || r.Open() != 0 {
		t.Errorf("%d requests, %d open", r.Count(), r.Open())
	}
	for _, drained := range []bool{false, true} {
		if drained {
			r.Drain(1)
		}
		if o, e := r.Submit(0, []int{1}, 1); e != api.ErrBig || o != (router.Order{}) {
			t.Errorf("one more: %v, %d", o, e)
		}
		if o, e := r.Submit(0, []int{4}, 1); e != api.ErrToken || o != (router.Order{}) {
			t.Errorf("one more, and wrong: %v, %d", o, e)
		}
	}
	if x, ok := r.Get(1<<20 - 1); !ok || x.End != router.Completed || r.Count() != 1<<20 {
		t.Errorf("the last one: %v, %v", x, ok)
	}
}
