package prefill_test

import (
	"math"
	"slices"
	"testing"

	"tiller/api"
	"tiller/prefill"
)

// askedError is the error of a prompt and of how many more tokens are asked for, as the chapters of layers 6 and 10 tell it.
func askedError(c api.Config, prompt []int, most int) api.Errno {
	if len(prompt) == 0 {
		return api.ErrNone
	}
	if len(prompt) > 128 {
		return api.ErrBig
	}
	if slices.Min(prompt) < 0 || slices.Max(prompt) >= c.Vocab {
		return api.ErrToken
	}
	if most < 1 {
		return api.ErrArg
	}
	if most > 128 || len(prompt)+most > 128 {
		return api.ErrBig
	}
	return api.OK
}

// jobError is the chapter's error of a job that is asked while others wait.
func jobError(c api.Config, queue int, waiting []prefill.Job, j prefill.Job) api.Errno {
	if min(j.Req, j.Try, j.To) < 0 {
		return api.ErrArg
	}
	if e := askedError(c, j.Prompt, j.Most); e != api.OK {
		return e
	}
	for _, k := range waiting {
		if k.Req == j.Req && k.Try == j.Try {
			return api.ErrThere
		}
	}
	if len(waiting) >= queue {
		return api.ErrFull
	}
	return api.OK
}

// long is a prompt of so many tokens, 0 and 1.
func long(length int) []int {
	var l []int
	for i := range length {
		l = append(l, i*i/3%2)
	}
	return l
}

// with is a prompt with another token at a place.
func with(prompt []int, at, token int) []int {
	l := slices.Clone(prompt)
	l[at] = token
	return l
}

// anyJobs are jobs that are right and wrong in every part, in every choice.
func anyJobs(vocab int) []prefill.Job {
	var l []prefill.Job
	prompts := [][]int{nil, {}, {0}, {1, 0, 1}, {-1}, {vocab}, {0, math.MaxInt}, {math.MinInt, 0}, long(127), long(128), long(129), with(long(129), 3, -1), with(long(128), 127, vocab)}
	for _, prompt := range prompts {
		for _, most := range []int{math.MinInt, -1, 0, 1, 125, 126, 127, 128, math.MaxInt} {
			for _, req := range []int{math.MinInt, -1, 0, 1, math.MaxInt} {
				for _, try := range []int{-1, 0, 1, math.MaxInt} {
					for _, to := range []int{math.MinInt, -1, 0, 7, math.MaxInt} {
						l = append(l, prefill.Job{Req: req, Try: try, To: to, Prompt: prompt, Most: most})
					}
				}
			}
		}
	}
	return l
}

// P22.1: Ask: each error in its order, of nodes with no job, with one and with a full queue; beside an error nothing has changed.
func TestAsk(t *testing.T) {
	c := config(2, 1, 1, 1, 1)
	w := made(t, c, 3)
	first, second := prefill.Job{Req: 1, Try: 0, Prompt: []int{1}, Most: 1}, prefill.Job{Req: 0, Try: 1, Prompt: []int{0}, Most: 1}
	for _, waiting := range [][]prefill.Job{nil, {first}, {first, second}} {
		for _, j := range anyJobs(c.Vocab) {
			n := begun(t, c, w, plan(1, 1, 128, 2))
			for _, k := range waiting {
				n.Ask(k)
			}
			want := jobError(c, 2, waiting, j)
			if e := n.Ask(j); e != want {
				t.Fatalf("%d wait: Ask(%v): %d, not %d", len(waiting), j, e, want)
			}
			row := slices.Clone(waiting)
			if want == api.OK {
				row = append(row, j)
			}
			if n.Waiting() != len(row) {
				t.Fatalf("behind Ask(%v): %d wait, not %d", j, n.Waiting(), len(row))
			}
			for _, k := range row {
				if out, ok := n.Tick(); !ok || !sameJob(out.Job, k) {
					t.Fatalf("behind Ask(%v): %v, %v, not %v", j, out.Job, ok, k)
				}
			}
			if out, ok := n.Tick(); ok || !isNothing(out) || n.Waiting() != 0 {
				t.Fatalf("behind Ask(%v) and all ticks: %v, %v", j, out, ok)
			}
		}
	}
}

// P22.1: jobs are the same by Req and Try together, whatever else they are; one that is worked on waits still, one that is done may be asked again.
func TestAskAgain(t *testing.T) {
	c := config(5, 4, 2, 6, 2)
	w := made(t, c, 7)
	n := begun(t, c, w, plan(2, 3, 2, 9))
	asks := []struct {
		j prefill.Job
		e api.Errno
	}{
		{prefill.Job{Req: 3, Try: 4, To: 1, Prompt: []int{1, 2, 3}, Most: 2}, api.OK},
		{prefill.Job{Req: 3, Try: 4, To: 2, Prompt: []int{4}, Most: 1}, api.ErrThere},
		{prefill.Job{Req: 4, Try: 3, To: 1, Prompt: []int{1, 2, 3}, Most: 2}, api.OK},
		{prefill.Job{Req: 3, Try: 5, To: 1, Prompt: []int{1, 2, 3}, Most: 2}, api.OK},
		{prefill.Job{Req: 3, Try: 3, To: 1, Prompt: []int{1, 2, 3}, Most: 2}, api.OK},
		{prefill.Job{Req: 4, Try: 3, To: 1, Prompt: []int{1, 2, 3}, Most: 2}, api.ErrThere},
	}
	for i, x := range asks {
		if e := n.Ask(x.j); e != x.e {
			t.Errorf("Ask %d: %d, not %d", i, e, x.e)
		}
	}
	if _, ok := n.Tick(); ok || n.Waiting() != 4 {
		t.Errorf("half done: %v, %d wait", ok, n.Waiting())
	}
	if e := n.Ask(asks[0].j); e != api.ErrThere {
		t.Errorf("Ask of what is half done: %d", e)
	}
	if out, ok := n.Tick(); !ok || n.Waiting() != 3 || !sameJob(out.Job, asks[0].j) {
		t.Errorf("done: %v, %v, %d wait", out.Job, ok, n.Waiting())
	}
	if e := n.Ask(asks[0].j); e != api.OK || n.Waiting() != 4 {
		t.Errorf("Ask of what is done: %d, %d wait", e, n.Waiting())
	}
}

// P22.1: a queue takes just as many as the plan says, at each of its bounds, and one more when one is done.
func TestQueue(t *testing.T) {
	c := config(2, 1, 1, 1, 1)
	w := made(t, c, 3)
	for _, queue := range []int{1, 2, 63, 64} {
		n := begun(t, c, w, plan(1, 1, 1, queue))
		for i := range queue {
			if e := n.Ask(prefill.Job{Req: i, Prompt: []int{1}, Most: 1}); e != api.OK || n.Waiting() != i+1 {
				t.Fatalf("queue %d: Ask %d: %d", queue, i, e)
			}
		}
		for i := range queue + 3 {
			j := prefill.Job{Req: queue + i, Prompt: []int{1}, Most: 1}
			if e := n.Ask(j); e != api.ErrFull || n.Waiting() != queue {
				t.Fatalf("queue %d is full: %d, %d wait", queue, e, n.Waiting())
			}
			if e := n.Ask(prefill.Job{Req: i, Prompt: []int{0}, Most: 2}); e != api.ErrThere {
				t.Fatalf("queue %d, a job that waits: %d", queue, e)
			}
			if out, ok := n.Tick(); !ok || out.Job.Req != i {
				t.Fatalf("queue %d: %v, %v, not %d", queue, out.Job, ok, i)
			}
			if e := n.Ask(j); e != api.OK || n.Waiting() != queue {
				t.Fatalf("queue %d, one done: %d", queue, e)
			}
		}
	}
}

// Tick without a job answers nothing, however often, and changes nothing.
func TestIdleTick(t *testing.T) {
	c := config(3, 2, 1, 2, 1)
	w := made(t, c, 3)
	n := begun(t, c, w, plan(2, 3, 4, 2))
	idle := func() {
		t.Helper()
		was := n.Pages()
		for range 5 {
			if out, ok := n.Tick(); ok || !isNothing(out) || n.Waiting() != 0 || !slices.EqualFunc(n.Pages(), was, sameBlock) {
				t.Errorf("Tick: %v, %v", out, ok)
			}
		}
	}
	idle()
	n.Ask(prefill.Job{Prompt: []int{1, 2, 1, 2}, Most: 3})
	if _, ok := n.Tick(); !ok {
		t.Error("four tokens, four a tick")
	}
	idle()
}
