package prefill_test

import (
	"math/rand"
	"slices"
	"testing"
	"unsafe"

	"tiller/api"
	"tiller/block"
	"tiller/model"
	"tiller/pass"
	"tiller/prefill"
)

// shares tells whether two texts lie in the same memory.
func shares(a, b string) bool {
	x, y := uintptr(unsafe.Pointer(unsafe.StringData(a))), uintptr(unsafe.Pointer(unsafe.StringData(b)))
	return len(a) > 0 && len(b) > 0 && x < y+uintptr(len(b)) && y < x+uintptr(len(a))
}

// roomyRow is the same row with spare room behind it, filled with 77.
func roomyRow[T int | api.Num](row []T) []T {
	return append(slices.Clone(row), 77, 77, 77)[:len(row)]
}

// rowStays tells whether a roomy row, and the room behind it, is as it was.
func rowStays[T int | api.Num](row, was []T) bool {
	return slices.Equal(row, was) && slices.Equal(row[len(row):len(row)+3], []T{77, 77, 77})
}

// roomyLists are the same lists with spare room behind each list and row, filled with 77.
func roomyLists(lists [][][]api.Num) [][][]api.Num {
	var l [][][]api.Num
	for _, rows := range lists {
		var x [][]api.Num
		for _, row := range rows {
			x = append(x, roomyRow(row))
		}
		l = append(l, append(x, []api.Num{77})[:len(rows)])
	}
	return append(l, [][]api.Num{{77}})[:len(lists)]
}

// listsStay tells whether roomy lists, and the room behind them, are as they were.
func listsStay(l, was [][][]api.Num) bool {
	if len(l) != len(was) || !sameLists(l[len(l):len(l)+1], [][][]api.Num{{{77}}}) {
		return false
	}
	return slices.EqualFunc(l, was, func(rows, old [][]api.Num) bool {
		return slices.EqualFunc(rows, old, rowStays[api.Num]) && slices.Equal(rows[len(rows) : len(rows)+1][0], []api.Num{77})
	})
}

// roomy are the same blocks with spare room behind each list.
func roomy(l []block.Block) []block.Block {
	var x []block.Block
	for _, b := range l {
		x = append(x, block.Block{Tokens: roomyRow(b.Tokens), From: b.From, Cache: pass.Cache{Keys: roomyLists(b.Cache.Keys), Vals: roomyLists(b.Cache.Vals)}})
	}
	return append(x, block.Block{From: 77})[:len(l)]
}

// stay tells whether roomy blocks, and the room behind their lists, are as they were.
func stay(l, was []block.Block) bool {
	if len(l) != len(was) || l[len(l) : len(l)+1][0].From != 77 {
		return false
	}
	return slices.EqualFunc(l, was, func(b, old block.Block) bool {
		return b.From == old.From && rowStays(b.Tokens, old.Tokens) && listsStay(b.Cache.Keys, old.Cache.Keys) && listsStay(b.Cache.Vals, old.Cache.Vals)
	})
}

// apart fills each of some lists, with the room behind it, with a mark of its own, and tells whether each has its mark then: no two share memory.
func apart[T any](lists [][]T, mark func(k int) T, is func(x T, k int) bool) bool {
	for k, l := range lists {
		l = l[:cap(l)]
		for i := range l {
			l[i] = mark(k)
		}
	}
	for k, l := range lists {
		if slices.ContainsFunc(l[:cap(l)], func(x T) bool { return !is(x, k) }) {
			return false
		}
	}
	return true
}

// overwrite changes blocks in all their lists, with the room behind them, and tells whether no two of them share memory.
func overwrite(l []block.Block) bool {
	var tokens [][]int
	var nums [][]api.Num
	var rows [][][]api.Num
	var layers [][][][]api.Num
	for _, b := range l {
		tokens = append(tokens, b.Tokens)
		for _, lists := range [][][][]api.Num{b.Cache.Keys, b.Cache.Vals} {
			layers = append(layers, lists)
			rows = append(rows, lists...)
			for _, r := range lists {
				nums = append(nums, r...)
			}
		}
	}
	ok := apart(tokens, func(k int) int { return 1000 + k }, func(x, k int) bool { return x == 1000+k })
	ok = apart(nums, func(k int) api.Num { return api.Num(1000 + k) }, func(x api.Num, k int) bool { return x == api.Num(1000+k) }) && ok
	ok = apart(rows, func(k int) []api.Num { return make([]api.Num, k) }, func(x []api.Num, k int) bool { return len(x) == k }) && ok
	return apart(layers, func(k int) [][]api.Num { return make([][]api.Num, k) }, func(x [][]api.Num, k int) bool { return len(x) == k }) && ok
}

// weightLists are all of a model's rows and matrices' data.
func weightLists(w model.Weights) [][]api.Num {
	l := [][]api.Num{w.Embed.Data, w.Last, w.Out.Data}
	for _, b := range w.Blocks {
		l = append(l, b.First, b.Q.Data, b.K.Data, b.V.Data, b.O.Data, b.Second, b.Up.Data, b.Down.Data)
	}
	return l
}

// K3: Bundle changes neither the blocks that it is handed nor the room behind their lists; texts are new memory, also of one block.
func TestBundleMemory(t *testing.T) {
	r := rand.New(rand.NewSource(10))
	c := config(5, 4, 2, 6, 2)
	for count := range 4 {
		was := anyBlocks(r, c, count)
		l := roomy(was)
		first, _ := prefill.Bundle(c, l)
		then, _ := prefill.Bundle(c, l)
		if shares(first, then) || first != then || !stay(l, was) {
			t.Errorf("Bundle of %d blocks", count)
		}
		wrong := roomy(append(slices.Clone(was), block.Block{}))
		prefill.Bundle(c, wrong)
		if !stay(wrong, append(slices.Clone(was), block.Block{})) {
			t.Errorf("Bundle of %d blocks and a wrong one", count)
		}
	}
}

// K3: the blocks that Unbundle answers share memory neither with one another nor with those of another call.
func TestUnbundleMemory(t *testing.T) {
	r := rand.New(rand.NewSource(11))
	c := config(5, 4, 2, 6, 2)
	was := anyBlocks(r, c, 3)
	s := bundled(was)
	first, _ := prefill.Unbundle(c, s)
	then, _ := prefill.Unbundle(c, s)
	if !overwrite(first) || !slices.EqualFunc(then, was, sameBlock) || s != bundled(was) {
		t.Error("a change of one answer changed another one")
	}
	if again, _ := prefill.Unbundle(c, s); !overwrite(slices.Concat(then, again)) {
		t.Error("two answers share memory")
	}
}

// K3: a node neither changes nor keeps the numbers that it is made with: they may change in the middle of a job.
func TestWeightsApart(t *testing.T) {
	c := config(5, 4, 2, 6, 2)
	w := made(t, c, 7)
	was := model.Copy(w)
	x := watched(t, c, w, plan(2, 4, 2, 3))
	x.w = was
	x.ask(prefill.Job{Req: 1, Prompt: []int{3, 3, 3}, Most: 5})
	x.all()
	x.ask(prefill.Job{Req: 2, Prompt: []int{1, 4, 2, 3, 1}, Most: 5})
	x.tick()
	if !slices.EqualFunc(weightLists(w), weightLists(was), slices.Equal) {
		t.Fatal("a node changed the numbers that it was made with")
	}
	for _, l := range weightLists(w) {
		for i := range l {
			l[i] = 3
		}
	}
	w.Blocks[0].Q = api.Mat{}
	x.ask(prefill.Job{Req: 3, Prompt: []int{1, 4, 2, 3, 4}, Most: 5})
	x.all()
}

// K3: a job that is asked is neither changed nor kept, also beside an error, and the room behind its prompt stays.
func TestJobApart(t *testing.T) {
	c := config(5, 4, 2, 6, 2)
	w := made(t, c, 7)
	x := watched(t, c, w, plan(2, 4, 2, 3))
	was := []int{1, 4, 2, 3, 1}
	prompt := roomyRow(was)
	for _, j := range []prefill.Job{{Req: 1, Prompt: prompt, Most: 5}, {Req: 1, Prompt: prompt, Most: 5}, {Req: 2, Prompt: prompt, Most: 500}, {Req: 2, Prompt: prompt, Most: 1}, {Req: 3, Prompt: prompt, Most: 1}, {Req: 4, Prompt: prompt, Most: 1}} {
		want := jobError(c, 3, x.waiting, j)
		if e := x.n.Ask(j); e != want || !rowStays(prompt, was) {
			t.Fatalf("Ask(%v): %d, not %d; %v", j, e, want, prompt)
		}
		if want == api.OK {
			j.Prompt = was
			x.waiting = append(x.waiting, j)
		}
	}
	x.tick()
	if !rowStays(prompt, was) {
		t.Errorf("a tick changed a prompt that was handed in: %v", prompt)
	}
	for i := range prompt {
		prompt[i] = 0
	}
	x.all()
	if !rowStays(prompt, []int{0, 0, 0, 0, 0}) {
		t.Errorf("ticks changed a prompt that was handed in: %v", prompt)
	}
}

// K3: a change of what was answered, Outs and Pages, changes no later answer; answers share no memory.
func TestAnswersApart(t *testing.T) {
	c := config(3, 4, 2, 6, 2)
	w := made(t, c, 7)
	x := watched(t, c, w, plan(2, 6, 3, 3))
	for i, prompt := range [][]int{{1, 2, 2, 1, 1}, {1, 2, 2, 1, 0, 0, 1}, {1, 2, 2, 1, 1}, {0, 0, 0, 0, 0, 0, 0, 0, 0}, {1, 2, 2, 1}} {
		x.ask(prefill.Job{Req: i, Prompt: prompt, Most: 1})
		x.ask(prefill.Job{Req: i, Try: 1, Prompt: prompt, Most: 1})
		var texts []string
		for len(x.waiting) > 0 {
			out, ok := x.n.Tick()
			if !ok {
				continue
			}
			if out.Text != handedOut(t, c, w, prompt, 2) || !slices.Equal(out.Job.Prompt, prompt) {
				t.Fatalf("%v: %v", prompt, out.Job)
			}
			l := out.Job.Prompt[:cap(out.Job.Prompt)]
			for k := range l {
				l[k] = 99
			}
			texts = append(texts, out.Text)
			x.waiting, x.done = x.waiting[1:], append(x.done, prompt)
			x.holds()
		}
		if shares(texts[0], texts[1]) {
			t.Error("two texts share memory")
		}
		first, then := x.n.Pages(), x.n.Pages()
		if !overwrite(slices.Concat(first, then)) {
			t.Error("pages share memory")
		}
		x.holds()
	}
}

// K4: two nodes that are asked alike answer alike, also for which pages they keep.
func TestAlike(t *testing.T) {
	c := config(3, 4, 2, 6, 2)
	w := made(t, c, 7)
	a, b := begun(t, c, w, plan(1, 9, 3, 3)), begun(t, c, w, plan(1, 9, 3, 3))
	r := rand.New(rand.NewSource(12))
	for range 400 {
		if r.Intn(3) == 0 {
			j := anyJob(r, c, nil, 9)
			if x, y := a.Ask(j), b.Ask(j); x != y {
				t.Fatalf("Ask(%v): %d, %d", j, x, y)
			}
			continue
		}
		x, ok := a.Tick()
		y, too := b.Tick()
		if ok != too || !sameJob(x.Job, y.Job) || x.Text != y.Text || !slices.EqualFunc(a.Pages(), b.Pages(), sameBlock) {
			t.Fatalf("Tick: %v, %v", x.Job, y.Job)
		}
	}
}
