package prefill_test

import (
	"math/rand"
	"slices"
	"testing"

	"tiller/api"
	"tiller/block"
	"tiller/model"
	"tiller/pass"
	"tiller/prefill"
)

// watch is a node with what the chapter promises of it: the jobs that wait, the prompts that are done, the ticks that the first job had, and how many of its tokens pages said when it was begun.
type watch struct {
	t       *testing.T
	c       api.Config
	w       model.Weights
	p       prefill.Plan
	n       *prefill.Node
	waiting []prefill.Job
	done    [][]int
	ticks   int
	said    int
}

// watched is a new node that is watched.
func watched(t *testing.T, c api.Config, w model.Weights, p prefill.Plan) *watch {
	t.Helper()
	return &watch{t: t, c: c, w: w, p: p, n: begun(t, c, w, p)}
}

// isDone tells whether some tokens are the beginning of a prompt that is done.
func (x *watch) isDone(tokens []int) bool {
	return slices.ContainsFunc(x.done, func(prompt []int) bool {
		return len(tokens) <= len(prompt) && slices.Equal(prompt[:len(tokens)], tokens)
	})
}

// pageHolds asks that a page is a full one of a prompt that is done, with just what the model keeps of its tokens.
func (x *watch) pageHolds(b block.Block) {
	x.t.Helper()
	if len(b.Tokens) == 0 || len(b.Tokens)%x.p.Page != 0 || b.From != len(b.Tokens)-x.p.Page || !x.isDone(b.Tokens) {
		x.t.Fatalf("a page of %v from %d on", b.Tokens, b.From)
	}
	_, cache, _ := pass.Full(x.c, x.w, b.Tokens)
	if !sameLists(b.Cache.Keys, places(cache.Keys, b.From, len(b.Tokens))) || !sameLists(b.Cache.Vals, places(cache.Vals, b.From, len(b.Tokens))) {
		x.t.Fatalf("a page of %v doesn't hold what is kept of them", b.Tokens)
	}
}

// holds asks for all that may be asked behind every call (P22.1, P22.3).
func (x *watch) holds() {
	x.t.Helper()
	if x.n.Waiting() != len(x.waiting) {
		x.t.Fatalf("%d wait, not %d", x.n.Waiting(), len(x.waiting))
	}
	pages := x.n.Pages()
	for i, b := range pages {
		x.pageHolds(b)
		if i > 0 && slices.Compare(pages[i-1].Tokens, b.Tokens) >= 0 {
			x.t.Fatalf("a page of %v ahead of one of %v", pages[i-1].Tokens, b.Tokens)
		}
	}
	free, needed, idle := x.n.Counts()
	if idle != len(pages) || needed != 0 || free < 0 || free+idle != x.p.Pages {
		x.t.Fatalf("%d free, %d needed, %d idle, of %d; %d pages", free, needed, idle, x.p.Pages, len(pages))
	}
}

// ask asks a job.
func (x *watch) ask(j prefill.Job) {
	x.t.Helper()
	want := jobError(x.c, x.p.Queue, x.waiting, j)
	if e := x.n.Ask(j); e != want {
		x.t.Fatalf("Ask(%v) while %v wait: %d, not %d", j, x.waiting, e, want)
	}
	if want == api.OK {
		x.waiting = append(x.waiting, j)
	}
	x.holds()
}

// covered is how many of a prompt's first tokens the pages that are kept say, without a gap.
func (x *watch) covered(prompt []int) int {
	pages := x.n.Pages()
	said := 0
	for said+x.p.Page <= len(prompt) && slices.ContainsFunc(pages, func(b block.Block) bool { return slices.Equal(b.Tokens, prompt[:said+x.p.Page]) }) {
		said += x.p.Page
	}
	return said
}

// ceil is a by b, brought up to a whole number.
func ceil(a, b int) int {
	return (a + b - 1) / b
}

// tick goes on by one, and tells whether a job was done (P22.2).
func (x *watch) tick() bool {
	x.t.Helper()
	if len(x.waiting) == 0 {
		if out, ok := x.n.Tick(); ok || !isNothing(out) {
			x.t.Fatalf("nothing waits: %v, %v", out, ok)
		}
		x.holds()
		return false
	}
	j := x.waiting[0]
	if x.ticks == 0 {
		x.said = min(x.covered(j.Prompt), len(j.Prompt)-1)
	}
	x.ticks++
	out, ok := x.n.Tick()
	if !ok && (!isNothing(out) || x.ticks >= ceil(len(j.Prompt), x.p.Rate)) {
		x.t.Fatalf("%v, %d a tick, at tick %d: %v, %v", j.Prompt, x.p.Rate, x.ticks, out, ok)
	}
	if ok {
		if !sameJob(out.Job, j) || x.ticks < ceil(len(j.Prompt)-x.said, x.p.Rate) {
			x.t.Fatalf("%v, %d of them in pages, %d a tick: %v at tick %d", j, x.said, x.p.Rate, out.Job, x.ticks)
		}
		if out.Text != handedOut(x.t, x.c, x.w, j.Prompt, x.p.Page) {
			x.t.Fatalf("%v behind %v: another text", j.Prompt, x.done)
		}
		x.waiting, x.done, x.ticks = x.waiting[1:], append(x.done, j.Prompt), 0
	}
	x.holds()
	return ok
}

// all goes on until nothing waits.
func (x *watch) all() {
	x.t.Helper()
	for len(x.waiting) > 0 {
		x.tick()
	}
	x.tick()
}

// everyRow are all rows of 1 to most tokens below vocab.
func everyRow(vocab, most int) [][]int {
	var l [][]int
	rows := [][]int{{}}
	for range most {
		var longer [][]int
		for _, row := range rows {
			for token := range vocab {
				longer = append(longer, append(slices.Clone(row), token))
			}
		}
		l, rows = append(l, longer...), longer
	}
	return l
}

// P22.2, P22.3: every two prompts of at most four tokens, and the first one again, at every small plan.
func TestEveryTwo(t *testing.T) {
	c := config(2, 2, 1, 2, 2)
	w := made(t, c, 11)
	prompts := everyRow(2, 4)
	for page := 1; page <= 3; page++ {
		for pages := 1; pages <= 3; pages++ {
			for _, a := range prompts {
				for _, b := range prompts {
					x := watched(t, c, w, plan(page, pages, 1+(len(a)+len(b)+page)%3, 3))
					x.ask(prefill.Job{Req: 1, Prompt: a, Most: 1})
					x.ask(prefill.Job{Req: 2, Prompt: b, Most: 1})
					x.ask(prefill.Job{Req: 3, Prompt: a, Most: 1})
					x.all()
				}
			}
		}
	}
}

// anyPrompt is a prompt that often begins like one ahead, or is the beginning of one, or the same again.
func anyPrompt(r *rand.Rand, c api.Config, ahead [][]int, most int) []int {
	var prompt []int
	if len(ahead) > 0 && r.Intn(5) > 0 {
		prompt = slices.Clone(ahead[r.Intn(len(ahead))])
		if r.Intn(3) > 0 {
			prompt = prompt[:r.Intn(len(prompt)+1)]
		}
	}
	if len(prompt) == 0 || r.Intn(2) == 0 {
		for range 1 + r.Intn(most) {
			prompt = append(prompt, r.Intn(c.Vocab))
		}
	}
	return prompt[:min(len(prompt), 127)]
}

// anyJob is a job, mostly a right one.
func anyJob(r *rand.Rand, c api.Config, ahead [][]int, most int) prefill.Job {
	j := prefill.Job{Req: r.Intn(4), Try: r.Intn(2), To: r.Intn(9), Prompt: anyPrompt(r, c, ahead, most), Most: 1}
	if room := 128 - len(j.Prompt); r.Intn(2) == 0 {
		j.Most = 1 + r.Intn(room)
	}
	switch r.Intn(20) {
	case 0:
		j.To = -1
	case 1:
		j.Prompt = with(j.Prompt, r.Intn(len(j.Prompt)), c.Vocab)
	case 2:
		j.Most = 129 - len(j.Prompt)
	}
	return j
}

// P22.1, P22.2, P22.3: long rows of calls.
func TestAnyCalls(t *testing.T) {
	r := rand.New(rand.NewSource(8))
	for round := range 120 {
		c := []api.Config{config(2, 1, 1, 1, 1), config(3, 2, 1, 5, 1), config(4, 4, 2, 3, 2), config(2, 3, 3, 2, 3)}[round%4]
		x := watched(t, c, made(t, c, uint64(round)), plan(1+r.Intn(4), 1+r.Intn(7), 1+r.Intn(5), 1+r.Intn(4)))
		for range 80 {
			if r.Intn(3) == 0 {
				x.ask(anyJob(r, c, x.done, 6))
			} else {
				x.tick()
			}
		}
		x.all()
	}
}

// P22.2, P22.3: prompts of up to 127 tokens at the bounds of a plan, and a model of the greatest shape.
func TestLong(t *testing.T) {
	c := config(3, 2, 2, 2, 1)
	w := made(t, c, 5)
	for _, p := range []prefill.Plan{plan(1, 1, 128, 64), plan(1, 64, 128, 64), plan(16, 64, 128, 1), plan(16, 1, 127, 2), plan(7, 5, 3, 2), plan(16, 8, 1, 64), plan(1, 64, 100, 3)} {
		x := watched(t, c, w, p)
		for i, prompt := range [][]int{long(127), long(127), long(64), with(long(127), 100, 2), long(1), long(16), with(long(127), 0, 2), long(126), long(127)} {
			x.ask(prefill.Job{Req: i, Prompt: prompt, Most: 1})
			x.all()
		}
	}
	c = config(64, 32, 4, 64, 4)
	x := watched(t, c, made(t, c, 6), plan(3, 4, 5, 9))
	for i, prompt := range [][]int{{63, 0, 1, 2, 62, 5, 6}, {63, 0, 1, 2, 62, 5, 6}, {63, 0, 1, 7}, {63, 0}, {1, 1, 1, 1, 1, 1, 1, 1, 1, 1, 1, 1, 1, 1, 1}, {63, 0, 1, 2, 62, 5}} {
		x.ask(prefill.Job{Req: i, To: 3, Prompt: prompt, Most: 9})
	}
	x.all()
}

// P22.2: numbers of all sizes in the model, the least and the greatest ones among them, come through as they are.
func TestSteep(t *testing.T) {
	c := config(4, 4, 2, 3, 2)
	r := rand.New(rand.NewSource(9))
	for seed := range uint64(30) {
		w := made(t, c, seed)
		for i := range w.Blocks {
			for _, l := range [][]api.Num{w.Blocks[i].First, w.Blocks[i].K.Data, w.Blocks[i].V.Data, w.Blocks[i].Down.Data} {
				for k := range l {
					l[k] = []api.Num{-api.Most - 1, api.Most, api.Num(int32(r.Uint32())), 0}[r.Intn(4)]
				}
			}
		}
		x := watched(t, c, w, plan(2, 5, 3, 4))
		for i, prompt := range [][]int{{1, 2, 3, 0, 1}, {1, 2, 3, 0, 1, 1, 1}, {1, 2}, {1, 2, 3, 0}} {
			x.ask(prefill.Job{Req: i, Prompt: prompt, Most: 1})
		}
		x.all()
	}
}

// Pages are of use: a prompt whose beginning is kept is done sooner, by just as many tokens as its pages say, and its last token is fed always.
func TestSooner(t *testing.T) {
	c := config(3, 2, 1, 2, 1)
	w := made(t, c, 4)
	cases := []struct {
		prompt []int
		ticks  int
	}{
		{[]int{1, 2, 1, 2, 1, 2, 1}, 7}, {[]int{1, 2, 1, 2, 1, 2, 1}, 1}, {[]int{1, 2, 1, 2, 1, 2}, 2}, {[]int{1, 2, 1, 2, 2}, 1}, {[]int{1, 2, 0}, 1}, {[]int{1, 0, 1}, 3}, {[]int{1, 2}, 2}, {[]int{1, 2, 1, 2, 1, 0, 1}, 3},
	}
	x := watched(t, c, w, plan(2, 9, 1, 1))
	for i, k := range cases {
		x.ask(prefill.Job{Req: i, Prompt: k.prompt, Most: 1})
		for tick := 1; tick <= k.ticks; tick++ {
			if done := x.tick(); done != (tick == k.ticks) {
				t.Errorf("%v at tick %d: %v, not at %d", k.prompt, tick, done, k.ticks)
			}
		}
	}
}

// rows are the tokens of the pages that are kept.
func rows(n *prefill.Node) [][]int {
	var l [][]int
	for _, b := range n.Pages() {
		l = append(l, b.Tokens)
	}
	return l
}

// A full pool keeps what was asked last, and of a prompt its beginning, without which the rest is of no use.
func TestRoom(t *testing.T) {
	c := config(4, 2, 1, 2, 1)
	w := made(t, c, 4)
	x := watched(t, c, w, plan(1, 3, 9, 1))
	steps := []struct {
		prompt []int
		rows   [][]int
	}{
		{[]int{1, 2, 3, 1, 2}, [][]int{{1}, {1, 2}, {1, 2, 3}}},
		{[]int{2}, [][]int{{1}, {1, 2}, {2}}},
		{[]int{1}, [][]int{{1}, {1, 2}, {2}}},
		{[]int{3}, [][]int{{1}, {2}, {3}}},
		{[]int{1, 3}, [][]int{{1}, {1, 3}, {3}}},
		{[]int{0, 0, 0, 0}, [][]int{{0}, {0, 0}, {0, 0, 0}}},
	}
	for i, s := range steps {
		x.ask(prefill.Job{Req: i, Prompt: s.prompt, Most: 1})
		x.all()
		if got := rows(x.n); !slices.EqualFunc(got, s.rows, slices.Equal) {
			t.Errorf("behind %v: %v, not %v", s.prompt, got, s.rows)
		}
	}
}
