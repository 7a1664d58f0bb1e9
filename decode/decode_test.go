package decode_test

import (
	"math"
	"slices"
	"testing"

	"tiller/api"
	"tiller/block"
	"tiller/decode"
	"tiller/greedy"
	"tiller/model"
	"tiller/pass"
	"tiller/prefill"
	"tiller/step"
)

// config is a configuration, its parts in the order of their names in the chapter of layer 6.
func config(vocab, dim, heads, hidden, layers int) api.Config {
	return api.Config{Vocab: vocab, Dim: dim, Heads: heads, Hidden: hidden, Layers: layers}
}

// plan is a plan, its parts in the order of their names in the chapter.
func plan(page, pages, rate, slots int) decode.Plan {
	return decode.Plan{Page: page, Pages: pages, Rate: rate, Slots: slots}
}

// made is a model that Make makes without an error.
func made(t *testing.T, c api.Config, seed uint64) model.Weights {
	t.Helper()
	w, e := model.Make(c, seed)
	if e != api.OK {
		t.Fatalf("Make(%v, %d): %d", c, seed, e)
	}
	return w
}

// talkative is a model with at least three tokens that likes token 0 best hardly ever: of two others one is liked as much as the other one is not.
func talkative(t *testing.T, c api.Config, seed uint64) model.Weights {
	t.Helper()
	w := made(t, c, seed)
	for j := range c.Dim {
		w.Out.Data[j], w.Out.Data[2*c.Dim+j] = 0, -w.Out.Data[c.Dim+j]
	}
	return w
}

// begun is a node that New makes without an error.
func begun(t *testing.T, c api.Config, w model.Weights, p decode.Plan) *decode.Node {
	t.Helper()
	n, e := decode.New(c, w, p)
	if e != api.OK || n == nil {
		t.Fatalf("New(%v, .., %v): %d", c, p, e)
	}
	return n
}

// says is what the model says behind a prompt, by a pass from the beginning for each token.
func says(t *testing.T, c api.Config, w model.Weights, prompt []int, most int) []int {
	t.Helper()
	var answer []int
	for len(answer) < most && (len(answer) == 0 || answer[len(answer)-1] != 0) {
		likes, _, e := pass.Full(c, w, slices.Concat(prompt, answer))
		if e != api.OK {
			t.Fatalf("Full(%v): %d", prompt, e)
		}
		best := 0
		for token, x := range likes {
			if x > likes[best] {
				best = token
			}
		}
		answer = append(answer, best)
	}
	return answer
}

// viewOf is the view of a prompt, by the pass from the beginning.
func viewOf(t *testing.T, c api.Config, w model.Weights, prompt []int) step.View {
	t.Helper()
	_, cache, e := pass.Full(c, w, prompt)
	if e != api.OK {
		t.Fatalf("Full(%v): %d", prompt, e)
	}
	return step.View{Tokens: prompt, Cache: cache}
}

// goodText is what is handed out of a prompt, by pages of so many tokens.
func goodText(t *testing.T, c api.Config, w model.Weights, prompt []int, page int) string {
	t.Helper()
	l, e := block.Split(c, viewOf(t, c, w, prompt), page)
	if e != api.OK {
		t.Fatalf("Split: %d", e)
	}
	text, e := prefill.Bundle(c, l)
	if e != api.OK {
		t.Fatalf("Bundle: %d", e)
	}
	return text
}

// sameAnswer tells whether two answers are the same.
func sameAnswer(a, b decode.Answer) bool {
	return a.Req == b.Req && a.Try == b.Try && a.Own == b.Own && slices.Equal(a.Tokens, b.Tokens)
}

// ceil is a by b, brought up to a whole number.
func ceil(a, b int) int {
	n := a / b
	if n*b < a {
		n++
	}
	return n
}

// about are numbers below, at and above the bounds of one that is 1 to most.
func about(most int) []int {
	return []int{math.MinInt, -1, 0, 1, 2, most - 1, most, most + 1, math.MaxInt}
}

// planError is the chapter's error of a plan.
func planError(p decode.Plan) api.Errno {
	if min(p.Page, p.Pages, p.Rate, p.Slots) < 1 {
		return api.ErrArg
	}
	if p.Page > 16 || p.Pages > 64 || p.Rate > 128 || p.Slots > 64 {
		return api.ErrBig
	}
	return api.OK
}

// everyPlan tells f plans with each part about its bounds, in every choice.
func everyPlan(f func(p decode.Plan)) {
	for _, page := range about(16) {
		for _, pages := range about(64) {
			for _, rate := range about(128) {
				for _, slots := range about(64) {
					f(plan(page, pages, rate, slots))
				}
			}
		}
	}
}

// P23.1: Check, also with several faults at once.
func TestCheck(t *testing.T) {
	everyPlan(func(p decode.Plan) {
		if e := decode.Check(p); e != planError(p) {
			t.Errorf("Check(%v): %d, not %d", p, e, planError(p))
		}
	})
}

// P23.1: New refuses plans that aren't right; a node that it makes has no tasks, and free pages alone.
func TestNewPlan(t *testing.T) {
	c := config(2, 1, 1, 1, 1)
	w := made(t, c, 1)
	everyPlan(func(p decode.Plan) {
		n, e := decode.New(c, w, p)
		if e != planError(p) || (n == nil) != (e != api.OK) {
			t.Fatalf("New(.., %v): %v, %d", p, n, e)
		}
		if e != api.OK {
			return
		}
		free, needed, idle := n.Counts()
		if n.Running() != 0 || free != p.Pages || needed != 0 || idle != 0 || len(n.Tick()) != 0 || n.Drop(0, 0) {
			t.Fatalf("New(.., %v): %d tasks, pages %d, %d, %d", p, n.Running(), free, needed, idle)
		}
	})
}

// P23.1: New refuses configurations and numbers that don't fit, ahead of plans that aren't right.
func TestNewWeights(t *testing.T) {
	c := config(5, 4, 2, 6, 2)
	w := made(t, c, 7)
	short, fewer, other := model.Copy(w), model.Copy(w), model.Copy(w)
	short.Last = short.Last[1:]
	fewer.Blocks = fewer.Blocks[1:]
	other.Blocks[1].Up.Data = other.Blocks[1].Up.Data[1:]
	cases := []struct {
		c api.Config
		w model.Weights
		e api.Errno
	}{
		{c, w, api.OK},
		{c, short, api.ErrForm}, {c, fewer, api.ErrForm}, {c, other, api.ErrForm}, {c, model.Weights{}, api.ErrForm},
		{config(5, 4, 2, 6, 3), w, api.ErrForm}, {config(6, 4, 2, 6, 2), w, api.ErrForm}, {config(5, 4, 3, 6, 2), w, api.ErrForm},
		{config(0, 4, 2, 6, 2), w, api.ErrArg}, {api.Config{}, model.Weights{}, api.ErrArg}, {config(65, 4, 2, 6, 2), w, api.ErrBig},
		{config(5, 4, 2, 6, math.MaxInt), w, api.ErrBig}, {config(5, 4, 2, 6, math.MinInt), w, api.ErrArg},
	}
	for i, x := range cases {
		for _, p := range []decode.Plan{plan(2, 3, 2, 2), plan(0, 3, 2, 2), plan(2, 65, 2, 2), plan(17, 3, 0, 2)} {
			want := x.e
			if want == api.OK {
				want = planError(p)
			}
			if n, e := decode.New(x.c, x.w, p); e != want || (n == nil) != (want != api.OK) {
				t.Errorf("New %d, %v: %v, %d, not %d", i, p, n, e, want)
			}
		}
	}
}

// P23.1: Need: of prompts of any length and tokens, and of any Most, brought to 0 to 128.
func TestNeed(t *testing.T) {
	c := config(2, 1, 1, 1, 1)
	w := made(t, c, 1)
	for page := 1; page <= 16; page++ {
		n := begun(t, c, w, plan(page, 1, 1, 1))
		for _, length := range []int{0, 1, 2, 3, 7, 15, 16, 17, 31, 32, 33, 127, 128, 129, 1000} {
			for _, most := range []int{math.MinInt, -129, -1, 0, 1, 2, 3, 15, 16, 17, 126, 127, 128, 129, 256, math.MaxInt} {
				more := most
				if most < 0 {
					more = 0
				}
				if most > 128 {
					more = 128
				}
				task := decode.Task{Req: -1, Prompt: slices.Repeat([]int{-5}, length), Most: most}
				if got := n.Need(task); got != ceil(length+more, page) {
					t.Errorf("%d tokens and %d more, %d a page: %d, not %d", length, most, page, got, ceil(length+more, page))
				}
			}
		}
		if free, needed, idle := n.Counts(); free != 1 || needed != 0 || idle != 0 || n.Running() != 0 {
			t.Error("Need needs pages")
		}
	}
}

// The chapter's example: two tokens a tick, three more asked for, none of them 0 ahead of the third: with a good text at the second tick, without one, behind a prompt of three tokens, at the third one.
func TestExample(t *testing.T) {
	c := config(5, 4, 2, 6, 2)
	w := talkative(t, c, 7)
	prompt := []int{1, 4, 2}
	want, e := greedy.Run(c, w, prompt, 3)
	if e != api.OK || slices.Contains(want[:2], 0) || len(want) != 3 {
		t.Fatalf("the example asks for another model: %v", want)
	}
	for text, at := range map[string]int{goodText(t, c, w, prompt, 2): 2, "": 3} {
		n := begun(t, c, w, plan(2, 3, 2, 1))
		if e := n.Begin(decode.Task{Req: 6, Try: 1, Prompt: prompt, Most: 3}, text); e != api.OK {
			t.Fatalf("Begin: %d", e)
		}
		for tick := 1; tick <= 4; tick++ {
			l := n.Tick()
			if tick != at && len(l) != 0 || tick == at && (len(l) != 1 || !sameAnswer(l[0], decode.Answer{Req: 6, Try: 1, Tokens: want, Own: text == ""})) {
				t.Errorf("%d bytes, tick %d: %v, not %v at tick %d", len(text), tick, l, want, at)
			}
		}
	}
}
