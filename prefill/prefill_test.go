package prefill_test

import (
	"math"
	"slices"
	"testing"

	"tiller/api"
	"tiller/block"
	"tiller/model"
	"tiller/pass"
	"tiller/prefill"
)

// config is a configuration, its parts in the order of their names in the chapter of layer 6.
func config(vocab, dim, heads, hidden, layers int) api.Config {
	return api.Config{Vocab: vocab, Dim: dim, Heads: heads, Hidden: hidden, Layers: layers}
}

// plan is a plan, its parts in the order of their names in the chapter.
func plan(page, pages, rate, queue int) prefill.Plan {
	return prefill.Plan{Page: page, Pages: pages, Rate: rate, Queue: queue}
}

// made is a model that Make makes without an error.
func made(t *testing.T, c api.Config, seed uint64) model.Weights {
	t.Helper()
	w, e := model.Make(c, seed)
	if e != api.OK {
		t.Fatalf("Make(%v, %d): %d", c, seed, e)
	}
	return w
}

// begun is a node that New makes without an error.
func begun(t *testing.T, c api.Config, w model.Weights, p prefill.Plan) *prefill.Node {
	t.Helper()
	n, e := prefill.New(c, w, p)
	if e != api.OK || n == nil {
		t.Fatalf("New(%v, .., %v): %d", c, p, e)
	}
	return n
}

// numbers are lists of rows as bytes, each number in four, the highest first.
func numbers(lists [][][]api.Num) string {
	var s []byte
	for _, rows := range lists {
		for _, row := range rows {
			for _, x := range row {
				u := uint64(int64(x)+1<<32) % (1 << 32)
				s = append(s, byte(u/(1<<24)), byte(u/(1<<16)%256), byte(u/256%256), byte(u%256))
			}
		}
	}
	return string(s)
}

// places are the rows of some places of each list.
func places(lists [][][]api.Num, from, to int) [][][]api.Num {
	var l [][][]api.Num
	for _, rows := range lists {
		l = append(l, rows[from:to])
	}
	return l
}

// handedOut is what the chapter asks to be handed out of a prompt, by the pass from the beginning, byte by byte.
func handedOut(t *testing.T, c api.Config, w model.Weights, prompt []int, page int) string {
	t.Helper()
	_, cache, e := pass.Full(c, w, prompt)
	if e != api.OK {
		t.Fatalf("Full(%v): %d", prompt, e)
	}
	text := ""
	for from := 0; from < len(prompt); from += page {
		to := min(from+page, len(prompt))
		s := string([]byte{byte(to), byte(from)})
		for _, token := range prompt[:to] {
			s += string([]byte{byte(token)})
		}
		s += numbers(places(cache.Keys, from, to)) + numbers(places(cache.Vals, from, to))
		text += string([]byte{0, byte(len(s) >> 16), byte(len(s) >> 8), byte(len(s))}) + s
	}
	return text
}

// sameLists tells whether lists of rows are the same numbers.
func sameLists(a, b [][][]api.Num) bool {
	return slices.EqualFunc(a, b, func(x, y [][]api.Num) bool { return slices.EqualFunc(x, y, slices.Equal) })
}

// sameBlock tells whether two blocks are the same.
func sameBlock(a, b block.Block) bool {
	return slices.Equal(a.Tokens, b.Tokens) && a.From == b.From && sameLists(a.Cache.Keys, b.Cache.Keys) && sameLists(a.Cache.Vals, b.Cache.Vals)
}

// sameJob tells whether two jobs are the same.
func sameJob(a, b prefill.Job) bool {
	return a.Req == b.Req && a.Try == b.Try && a.To == b.To && a.Most == b.Most && slices.Equal(a.Prompt, b.Prompt)
}

// isNothing tells whether it is the zero Out.
func isNothing(o prefill.Out) bool {
	return o.Text == "" && sameJob(o.Job, prefill.Job{})
}

// about are numbers below, at and above the bounds of one that is 1 to most.
func about(most int) []int {
	return []int{math.MinInt, -1, 0, 1, 2, most - 1, most, most + 1, math.MaxInt}
}

// planError is the chapter's error of a plan.
func planError(p prefill.Plan) api.Errno {
	if min(p.Page, p.Pages, p.Rate, p.Queue) < 1 {
		return api.ErrArg
	}
	if p.Page > 16 || p.Pages > 64 || p.Rate > 128 || p.Queue > 64 {
		return api.ErrBig
	}
	return api.OK
}

// everyPlan tells f plans with each part about its bounds, in every choice.
func everyPlan(f func(p prefill.Plan)) {
	for _, page := range about(16) {
		for _, pages := range about(64) {
			for _, rate := range about(128) {
				for _, queue := range about(64) {
					f(plan(page, pages, rate, queue))
				}
			}
		}
	}
}

// P22.1: Check, also with several faults at once.
func TestCheck(t *testing.T) {
	everyPlan(func(p prefill.Plan) {
		if e := prefill.Check(p); e != planError(p) {
			t.Errorf("Check(%v): %d, not %d", p, e, planError(p))
		}
	})
}

// P22.1: New refuses plans that aren't right; a node that it makes has no jobs, and free pages alone.
func TestNewPlan(t *testing.T) {
	c := config(2, 1, 1, 1, 1)
	w := made(t, c, 1)
	everyPlan(func(p prefill.Plan) {
		n, e := prefill.New(c, w, p)
		if e != planError(p) || (n == nil) != (e != api.OK) {
			t.Fatalf("New(.., %v): %v, %d", p, n, e)
		}
		if e != api.OK {
			return
		}
		free, needed, idle := n.Counts()
		if n.Waiting() != 0 || len(n.Pages()) != 0 || free != p.Pages || needed != 0 || idle != 0 {
			t.Fatalf("New(.., %v): %d jobs, %v, pages %d, %d, %d", p, n.Waiting(), n.Pages(), free, needed, idle)
		}
	})
}

// P22.1: New refuses configurations and numbers that don't fit, ahead of plans that aren't right.
func TestNewWeights(t *testing.T) {
	c := config(5, 4, 2, 6, 2)
	w := made(t, c, 7)
	short, fewer, other := model.Copy(w), model.Copy(w), model.Copy(w)
	short.Last = short.Last[1:]
	fewer.Blocks = fewer.Blocks[1:]
	other.Blocks[1].Up.Data = other.Blocks[1].Up.Data[1:]
	cases := []struct {
		c api.Config
		w model.Weights
		e api.Errno
	}{
		{c, w, api.OK},
		{c, short, api.ErrForm}, {c, fewer, api.ErrForm}, {c, other, api.ErrForm}, {c, model.Weights{}, api.ErrForm},
		{config(5, 4, 2, 6, 3), w, api.ErrForm}, {config(6, 4, 2, 6, 2), w, api.ErrForm}, {config(5, 4, 3, 6, 2), w, api.ErrForm},
		{config(0, 4, 2, 6, 2), w, api.ErrArg}, {api.Config{}, model.Weights{}, api.ErrArg}, {config(65, 4, 2, 6, 2), w, api.ErrBig},
		{config(5, 4, 2, 6, math.MaxInt), w, api.ErrBig}, {config(5, 4, 2, 6, math.MinInt), w, api.ErrArg},
	}
	for i, x := range cases {
		for _, p := range []prefill.Plan{plan(2, 3, 2, 2), plan(0, 3, 2, 2), plan(2, 65, 2, 2), plan(17, 3, 0, 2)} {
			want := x.e
			if want == api.OK {
				want = planError(p)
			}
			if n, e := prefill.New(x.c, x.w, p); e != want || (n == nil) != (want != api.OK) {
				t.Errorf("New %d, %v: %v, %d, not %d", i, p, n, e, want)
			}
		}
	}
}

// The chapter's example: five tokens, two a tick, are done at the third tick; a second job with the same prompt has the same bundle.
func TestExample(t *testing.T) {
	c := config(5, 4, 2, 6, 2)
	w := made(t, c, 7)
	n := begun(t, c, w, plan(2, 3, 2, 2))
	prompt := []int{1, 4, 2, 3, 1}
	n.Ask(prefill.Job{Req: 1, Prompt: prompt, Most: 5})
	n.Ask(prefill.Job{Req: 2, Prompt: prompt, Most: 5})
	var texts []string
	var ticks []int
	for tick := 1; tick <= 6; tick++ {
		if out, ok := n.Tick(); ok {
			texts, ticks = append(texts, out.Text), append(ticks, tick)
		}
	}
	if len(texts) != 2 || ticks[0] != 3 || ticks[1] > 6 || texts[0] != texts[1] || texts[0] != handedOut(t, c, w, prompt, 2) {
		t.Errorf("done at ticks %v", ticks)
	}
}
