package decode_test

import (
	"cmp"
	"math/rand"
	"slices"
	"testing"

	"tiller/api"
	"tiller/block"
	"tiller/decode"
	"tiller/greedy"
	"tiller/model"
	"tiller/prefill"
)

// run is a task that is there, with the answer that it is to have, and the tokens that it costs still.
type run struct {
	task decode.Task
	want decode.Answer
	left int
}

// watch is a node with the tasks that are there, by Req, then by Try.
type watch struct {
	t     *testing.T
	c     api.Config
	w     model.Weights
	p     decode.Plan
	n     *decode.Node
	runs  []run
	ended int // answers that End ended ahead of Most
	full  int // answers of Most tokens
}

// watched is a new node that is watched.
func watched(t *testing.T, c api.Config, w model.Weights, p decode.Plan) *watch {
	t.Helper()
	return &watch{t: t, c: c, w: w, p: p, n: begun(t, c, w, p)}
}

// there are the tasks that are there.
func (x *watch) there() []decode.Task {
	var l []decode.Task
	for _, r := range x.runs {
		l = append(l, r.task)
	}
	return l
}

// begin begins a task; good: the text is of use.
func (x *watch) begin(task decode.Task, text string, good bool) {
	x.t.Helper()
	want := taskError(x.c, x.p, x.there(), task)
	if e := x.n.Begin(task, text); e != want {
		x.t.Fatalf("Begin(%v) beside %v: %d, not %d", task, x.there(), e, want)
	}
	if want == api.OK {
		answer := says(x.t, x.c, x.w, task.Prompt, task.Most)
		cost := len(answer)
		if !good {
			cost += len(task.Prompt) - 1
		}
		x.runs = append(x.runs, run{task, decode.Answer{Req: task.Req, Try: task.Try, Tokens: answer, Own: !good}, cost})
		slices.SortFunc(x.runs, func(a, b run) int {
			return cmp.Or(cmp.Compare(a.task.Req, b.task.Req), cmp.Compare(a.task.Try, b.task.Try))
		})
	}
	accounted(x.t, x.n, x.p, x.there())
}

// tick goes on by one (P23.2).
func (x *watch) tick() {
	x.t.Helper()
	var left []run
	var want []decode.Answer
	for _, r := range x.runs {
		if r.left -= x.p.Rate; r.left > 0 {
			left = append(left, r)
			continue
		}
		want = append(want, r.want)
		if len(r.want.Tokens) < r.task.Most {
			x.ended++
		} else {
			x.full++
		}
	}
	if got := x.n.Tick(); !slices.EqualFunc(got, want, sameAnswer) {
		x.t.Fatalf("%v there: %v, not %v", x.there(), got, want)
	}
	x.runs = left
	accounted(x.t, x.n, x.p, x.there())
}

// drop drops a task that may be there.
func (x *watch) drop(req, try int) {
	x.t.Helper()
	was := len(x.runs)
	x.runs = slices.DeleteFunc(x.runs, func(r run) bool { return r.task.Req == req && r.task.Try == try })
	if got := x.n.Drop(req, try); got != (len(x.runs) < was) {
		x.t.Fatalf("Drop(%d, %d): %v", req, try, got)
	}
	accounted(x.t, x.n, x.p, x.there())
}

// all goes on until no task is there.
func (x *watch) all() {
	x.t.Helper()
	for len(x.runs) > 0 {
		x.tick()
	}
	x.tick()
}

// uneven is a good text of blocks of unlike lengths.
func uneven(t *testing.T, c api.Config, w model.Weights, prompt []int) string {
	t.Helper()
	v := viewOf(t, c, w, prompt)
	var l []block.Block
	for from, size := 0, 1; from < len(prompt); size = size%5 + 2 {
		to := min(from+size, len(prompt))
		b := block.Block{Tokens: prompt[:to], From: from}
		for i := range v.Cache.Keys {
			b.Cache.Keys, b.Cache.Vals = append(b.Cache.Keys, v.Cache.Keys[i][from:to]), append(b.Cache.Vals, v.Cache.Vals[i][from:to])
		}
		l, from = append(l, b), to
	}
	text, e := prefill.Bundle(c, l)
	if e != api.OK {
		t.Fatalf("Bundle: %d", e)
	}
	return text
}

// badTexts are texts that are no bundle of just this prompt.
func badTexts(t *testing.T, c api.Config, w model.Weights, prompt []int) []string {
	t.Helper()
	good := goodText(t, c, w, prompt, 2)
	longer := goodText(t, c, w, append(slices.Clone(prompt), 1), 2)
	other := goodText(t, c, w, with(prompt, len(prompt)-1, 1-min(prompt[len(prompt)-1], 1)), 2)
	begins := goodText(t, c, w, with(prompt, 0, 1-min(prompt[0], 1)), 3)
	blocks, _ := prefill.Unbundle(c, good)
	slices.Reverse(blocks)
	back, _ := prefill.Bundle(c, blocks)
	l := []string{"", "x", "\x00\x00\x00\x00", "broken", good[1:], good[:len(good)-1], good + "\x00", good + good, longer, other, begins, "\xff\xff\xff\xff" + good}
	if len(prompt) > 1 {
		l = append(l, goodText(t, c, w, prompt[:len(prompt)-1], 2))
	}
	if len(blocks) > 1 {
		l = append(l, back)
	}
	spoilt := []byte(good)
	spoilt[6] = byte(c.Vocab)
	return append(l, string(spoilt))
}

// P23.2: every prompt of at most three tokens, every Most up to 4, with good texts by any pages, and with texts that aren't of use.
func TestTexts(t *testing.T) {
	c := config(3, 2, 1, 3, 2)
	for seed := range uint64(3) {
		w := made(t, c, seed)
		for code := range 3 + 9 + 27 {
			prompt := []int{code % 3}
			if code >= 3 {
				prompt = append(prompt, (code-3)/3%3)
			}
			if code >= 12 {
				prompt = []int{(code - 12) % 3, (code - 12) / 3 % 3, (code - 12) / 9}
			}
			for most := 1; most <= 4; most++ {
				for rate := 1; rate <= 5; rate++ {
					x := watched(t, c, w, plan(2, 64, rate, 64))
					for _, text := range []string{goodText(t, c, w, prompt, 1), goodText(t, c, w, prompt, 2), goodText(t, c, w, prompt, 16), uneven(t, c, w, prompt)} {
						x.begin(decode.Task{Req: len(x.runs), Prompt: prompt, Most: most}, text, true)
					}
					for _, text := range badTexts(t, c, w, prompt) {
						x.begin(decode.Task{Req: len(x.runs), Prompt: prompt, Most: most}, text, false)
					}
					x.all()
				}
			}
		}
	}
}

// P23.2, P23.3: long rows of calls: tasks begin, go on and are dropped beside one another.
func TestAnyCalls(t *testing.T) {
	r := rand.New(rand.NewSource(1))
	ended, full := 0, 0
	for round := range 150 {
		c := []api.Config{config(2, 1, 1, 1, 1), config(3, 2, 1, 5, 1), config(7, 4, 2, 3, 2), config(9, 3, 3, 2, 3)}[round%4]
		x := watched(t, c, made(t, c, uint64(round)), plan(1+r.Intn(6), 1+r.Intn(40), 1+r.Intn(5), 1+r.Intn(6)))
		for range 60 {
			switch r.Intn(8) {
			case 0, 1, 2:
				task := decode.Task{Req: r.Intn(4), Try: r.Intn(3), Most: 1 + r.Intn(9)}
				for range 1 + r.Intn(7) {
					task.Prompt = append(task.Prompt, r.Intn(c.Vocab))
				}
				if r.Intn(2) == 0 {
					x.begin(task, goodText(t, c, x.w, task.Prompt, 1+r.Intn(16)), true)
				} else {
					bad := badTexts(t, c, x.w, task.Prompt)
					x.begin(task, bad[r.Intn(len(bad))], false)
				}
			case 3:
				x.drop(r.Intn(5)-1, r.Intn(4)-1)
			case 4:
				x.begin(decode.Task{Req: r.Intn(3) - 1, Try: r.Intn(3) - 1, Prompt: long(r.Intn(4)), Most: r.Intn(3) - 1}, "", false)
			default:
				x.tick()
			}
		}
		x.all()
		ended, full = ended+x.ended, full+x.full
	}
	if ended < 100 || full < 100 {
		t.Errorf("%d answers ended by themselves, %d had all tokens: the models are too much alike", ended, full)
	}
}

// P23.2: the longest prompts and answers, at the bounds of a plan.
func TestLong(t *testing.T) {
	c := config(3, 2, 1, 2, 1)
	w := talkative(t, c, 5)
	if l := says(t, c, w, []int{1}, 127); len(l) < 100 {
		t.Fatalf("the model says too little: %v", l)
	}
	for _, p := range []decode.Plan{plan(16, 64, 128, 8), plan(16, 64, 127, 8), plan(2, 64, 1, 2), plan(16, 32, 50, 4), plan(16, 64, 63, 64)} {
		x := watched(t, c, w, p)
		for i, length := range []int{1, 127, 64, 100} {
			prompt := long(length)
			x.begin(decode.Task{Req: 9 - i, Prompt: prompt, Most: 128 - length}, "", false)
			x.tick()
			x.begin(decode.Task{Req: 9 - i, Try: 1, Prompt: prompt, Most: 128 - length}, goodText(t, c, w, prompt, 16), true)
			x.all()
		}
		for i, length := range []int{1, 127, 64, 100} {
			x.begin(decode.Task{Req: 9 - i, Prompt: long(length), Most: 128 - length}, "", false)
		}
		x.all()
	}
	c = config(64, 32, 4, 64, 4)
	w = made(t, c, 6)
	x := watched(t, c, w, plan(16, 64, 3, 8))
	for i, prompt := range [][]int{{63, 0, 1, 2, 62}, {5}, {1, 1, 1, 1, 1, 1, 1, 1}} {
		x.begin(decode.Task{Req: i, Prompt: prompt, Most: 6}, goodText(t, c, w, prompt, 3), true)
		x.begin(decode.Task{Req: i, Try: 1, Prompt: prompt, Most: 6}, "", false)
	}
	x.all()
}

// P23.2: what prefill hands out is what decode goes on from, and answers are those of greedy.Run.
func TestBehindPrefill(t *testing.T) {
	c := config(7, 4, 2, 6, 2)
	for seed := range uint64(20) {
		w := made(t, c, seed)
		p, _ := prefill.New(c, w, prefill.Plan{Page: 2, Pages: 3, Rate: 3, Queue: 9})
		prompts := [][]int{{1, 4, 2}, {1, 4, 2, 2, 2}, {6}, {1, 4, 2, 2}, {1, 4, 2}}
		for i, prompt := range prompts {
			p.Ask(prefill.Job{Req: i, Prompt: prompt, Most: 5})
		}
		n := begun(t, c, w, plan(3, 64, 2, 9))
		for p.Waiting() > 0 {
			out, ok := p.Tick()
			if ok && n.Begin(decode.Task{Req: out.Job.Req, Prompt: out.Job.Prompt, Most: out.Job.Most}, out.Text) != api.OK {
				t.Fatal("Begin")
			}
		}
		answers := 0
		for range 3 {
			for _, a := range n.Tick() {
				want, _ := greedy.Run(c, w, prompts[a.Req], 5)
				if !sameAnswer(a, decode.Answer{Req: a.Req, Tokens: want}) {
					t.Errorf("%v: %v, not %v", prompts[a.Req], a, want)
				}
				answers++
			}
		}
		if answers != len(prompts) || n.Running() != 0 {
			t.Errorf("%d answers, %d tasks left", answers, n.Running())
		}
	}
}

// P23.2: a task that begins from other numbers than those of the model ends, with tokens of the vocabulary; the tasks beside it are answered as ever.
func TestOtherNumbers(t *testing.T) {
	c := config(5, 4, 2, 6, 2)
	w := made(t, c, 7)
	r := rand.New(rand.NewSource(2))
	prompt := []int{1, 4, 2, 3}
	beside := decode.Task{Req: 1, Prompt: prompt, Most: 9}
	want := says(t, c, w, prompt, 9)
	for range 200 {
		blocks, _ := prefill.Unbundle(c, goodText(t, c, w, prompt, 2))
		for _, b := range blocks {
			for _, lists := range [][][][]api.Num{b.Cache.Keys, b.Cache.Vals} {
				for _, rows := range lists {
					for _, row := range rows {
						for i := range row {
							row[i] = []api.Num{-api.Most - 1, api.Most, 0, api.Num(int32(r.Uint32()))}[r.Intn(4)]
						}
					}
				}
			}
		}
		text, _ := prefill.Bundle(c, blocks)
		n := begun(t, c, w, plan(2, 20, 2, 3))
		if n.Begin(decode.Task{Req: 0, Prompt: prompt, Most: 9}, text) != api.OK || n.Begin(beside, goodText(t, c, w, prompt, 1)) != api.OK {
			t.Fatal("Begin")
		}
		got := map[int]decode.Answer{}
		for range 5 {
			for _, a := range n.Tick() {
				got[a.Req] = a
			}
		}
		a := got[0]
		if len(a.Tokens) < 1 || len(a.Tokens) > 9 || slices.Min(a.Tokens) < 0 || slices.Max(a.Tokens) > 4 || a.Own {
			t.Fatalf("other numbers: %v", a)
		}
		if !sameAnswer(got[1], decode.Answer{Req: 1, Tokens: want}) {
			t.Fatalf("beside other numbers: %v, not %v", got[1], want)
		}
		accounted(t, n, plan(2, 20, 2, 3), nil)
	}
}

// P23.2: answers of one tick stand by Req, then by Try, in whatever order the tasks were begun.
func TestOrder(t *testing.T) {
	c := config(3, 2, 1, 2, 1)
	w := made(t, c, 5)
	keys := [][2]int{{0, 0}, {0, 1}, {0, 10}, {1, 0}, {2, 9}, {10, 0}, {10, 3}}
	r := rand.New(rand.NewSource(3))
	for range 50 {
		n := begun(t, c, w, plan(16, 64, 128, 64))
		for _, i := range r.Perm(len(keys)) {
			n.Begin(decode.Task{Req: keys[i][0], Try: keys[i][1], Prompt: []int{1, 2}, Most: 1 + i}, "")
		}
		l := n.Tick()
		if len(l) != len(keys) {
			t.Fatalf("%d answers", len(l))
		}
		for i, a := range l {
			if a.Req != keys[i][0] || a.Try != keys[i][1] || !slices.Equal(a.Tokens, says(t, c, w, []int{1, 2}, 1+i)) {
				t.Fatalf("answer %d: %v, not of %v", i, a, keys[i])
			}
		}
	}
}
