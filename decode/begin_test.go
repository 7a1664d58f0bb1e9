package decode_test

import (
	"math"
	"slices"
	"testing"

	"tiller/api"
	"tiller/decode"
)

// askedError is the error of a prompt and of how many more tokens are asked for, as the chapters of layers 6 and 10 tell it.
func askedError(c api.Config, prompt []int, most int) api.Errno {
	if len(prompt) == 0 {
		return api.ErrNone
	}
	if len(prompt) > 128 {
		return api.ErrBig
	}
	if slices.Min(prompt) < 0 || slices.Max(prompt) >= c.Vocab {
		return api.ErrToken
	}
	if most < 1 {
		return api.ErrArg
	}
	if most > 128 || len(prompt)+most > 128 {
		return api.ErrBig
	}
	return api.OK
}

// isOf tells whether a task is that of a request and a try.
func isOf(req, try int) func(x decode.Task) bool {
	return func(x decode.Task) bool { return x.Req == req && x.Try == try }
}

// needs is how many pages tasks need together.
func needs(p decode.Plan, l []decode.Task) int {
	sum := 0
	for _, x := range l {
		sum += ceil(len(x.Prompt)+x.Most, p.Page)
	}
	return sum
}

// taskError is the chapter's error of a task that is begun while others are there.
func taskError(c api.Config, p decode.Plan, there []decode.Task, x decode.Task) api.Errno {
	if min(x.Req, x.Try) < 0 {
		return api.ErrArg
	}
	if e := askedError(c, x.Prompt, x.Most); e != api.OK {
		return e
	}
	if slices.ContainsFunc(there, isOf(x.Req, x.Try)) {
		return api.ErrThere
	}
	if len(there) >= p.Slots || needs(p, append(slices.Clone(there), x)) > p.Pages {
		return api.ErrFull
	}
	return api.OK
}

// long is a prompt of so many tokens, 0 and 1.
func long(length int) []int {
	var l []int
	for i := range length {
		l = append(l, i*i/3%2)
	}
	return l
}

// with is a prompt with another token at a place.
func with(prompt []int, at, token int) []int {
	l := slices.Clone(prompt)
	l[at] = token
	return l
}

// anyTasks are tasks that are right and wrong in every part, in every choice.
func anyTasks(vocab int) []decode.Task {
	var l []decode.Task
	prompts := [][]int{nil, {}, {0}, {1, 0, 1}, {-1}, {vocab}, {0, math.MaxInt}, {math.MinInt, 0}, long(100), long(127), long(128), long(129), with(long(129), 3, -1), with(long(128), 127, vocab)}
	for _, prompt := range prompts {
		for _, most := range []int{math.MinInt, -1, 0, 1, 2, 28, 29, 125, 126, 127, 128, math.MaxInt} {
			for _, req := range []int{math.MinInt, -1, 0, 1, math.MaxInt} {
				for _, try := range []int{math.MinInt, -1, 0, 1, math.MaxInt} {
					l = append(l, decode.Task{Req: req, Try: try, Prompt: prompt, Most: most})
				}
			}
		}
	}
	return l
}

// accounted asks that there are just some tasks, and that just their pages are needed.
func accounted(t *testing.T, n *decode.Node, p decode.Plan, there []decode.Task) {
	t.Helper()
	free, needed, idle := n.Counts()
	if n.Running() != len(there) || needed != needs(p, there) || free != p.Pages-needed || idle != 0 {
		t.Fatalf("%v there: %d tasks, pages %d, %d, %d", there, n.Running(), free, needed, idle)
	}
}

// P23.1: Begin: each error in its order, of nodes with no task, with one and with full slots, with few pages and with many; beside an error nothing has changed.
func TestBegin(t *testing.T) {
	c := config(2, 1, 1, 1, 1)
	w := made(t, c, 3)
	first, second := decode.Task{Req: 1, Try: 0, Prompt: []int{1}, Most: 1}, decode.Task{Req: 0, Try: 1, Prompt: []int{0, 1, 1}, Most: 2}
	tasks := anyTasks(c.Vocab)
	for _, there := range [][]decode.Task{nil, {first}, {second}, {first, second}} {
		for _, p := range []decode.Plan{plan(16, 9, 1, 2), plan(2, 64, 1, 2), plan(2, 3, 1, 2), plan(2, 4, 1, 3), plan(1, 5, 1, 3), plan(1, 64, 1, 64), plan(3, 4, 1, 3)} {
			if needs(p, there) > p.Pages {
				continue
			}
			for _, x := range tasks {
				n := begun(t, c, w, p)
				for _, y := range there {
					if e := n.Begin(y, ""); e != api.OK {
						t.Fatalf("Begin(%v): %d", y, e)
					}
				}
				want := taskError(c, p, there, x)
				if e := n.Begin(x, ""); e != want {
					t.Fatalf("%v, %v there: Begin(%v): %d, not %d", p, there, x, e, want)
				}
				row := slices.Clone(there)
				if want == api.OK {
					row = append(row, x)
				}
				accounted(t, n, p, row)
				for len(row) > 0 {
					if !n.Drop(row[0].Req, row[0].Try) || n.Drop(row[0].Req, row[0].Try) {
						t.Fatalf("behind Begin(%v): Drop of %v", x, row[0])
					}
					row = row[1:]
					accounted(t, n, p, row)
				}
			}
		}
	}
}

// P23.1: slots take just as many tasks as the plan says, at each of its bounds, and one more when one is gone.
func TestSlots(t *testing.T) {
	c := config(3, 1, 1, 1, 1)
	w := talkative(t, c, 3)
	for _, slots := range []int{1, 2, 63, 64} {
		p := plan(16, 64, 1, slots)
		n := begun(t, c, w, p)
		var there []decode.Task
		for i := range slots {
			x := decode.Task{Req: i / 2, Try: i % 2, Prompt: []int{1}, Most: 3}
			if e := n.Begin(x, ""); e != api.OK {
				t.Fatalf("%d slots: Begin %d: %d", slots, i, e)
			}
			there = append(there, x)
			accounted(t, n, p, there)
		}
		for i := range slots {
			x := decode.Task{Req: 100 + i, Prompt: []int{1}, Most: 3}
			if e := n.Begin(x, ""); e != api.ErrFull {
				t.Fatalf("%d slots are full: %d", slots, e)
			}
			if e := n.Begin(there[slots-1], ""); e != api.ErrThere {
				t.Fatalf("%d slots are full, a task that is there: %d", slots, e)
			}
			accounted(t, n, p, there)
			if !n.Drop(there[0].Req, there[0].Try) {
				t.Fatalf("Drop of %v", there[0])
			}
			if e := n.Begin(x, ""); e != api.OK {
				t.Fatalf("%d slots, one gone: %d", slots, e)
			}
			there = append(there[1:], x)
			accounted(t, n, p, there)
		}
	}
}

// P23.3: a task that needs just as many pages as are free is taken, one that needs one more isn't, with none there and with some, also behind tasks that are gone.
func TestPages(t *testing.T) {
	c := config(3, 1, 1, 1, 1)
	w := talkative(t, c, 3)
	for page := 1; page <= 16; page++ {
		for _, pages := range []int{1, 2, 5, 64} {
			p := plan(page, pages, 1, 3)
			n := begun(t, c, w, p)
			for round := range 3 {
				room := min(page*pages, 128)
				whole := decode.Task{Prompt: long(1), Most: room - 1}
				if room < 128 {
					if e := n.Begin(decode.Task{Prompt: long(room), Most: 1}, ""); e != api.ErrFull {
						t.Fatalf("%v, round %d, one token too many: %d", p, round, e)
					}
				}
				if whole.Most < 1 {
					continue
				}
				if e := n.Begin(whole, ""); e != api.OK {
					t.Fatalf("%v, round %d, all pages: %d", p, round, e)
				}
				accounted(t, n, p, []decode.Task{whole})
				small := decode.Task{Req: 1, Prompt: long(1), Most: 1}
				if e, want := n.Begin(small, ""), taskError(c, p, []decode.Task{whole}, small); e != want {
					t.Fatalf("%v, round %d, one more: %d, not %d", p, round, e, want)
				}
				n.Drop(1, 0)
				n.Tick()
				n.Drop(0, 0)
				accounted(t, n, p, nil)
			}
		}
	}
}

// P23.1: Drop takes just the task of this Req and Try, at any of its ticks.
func TestDrop(t *testing.T) {
	c := config(3, 2, 1, 2, 1)
	w := talkative(t, c, 5)
	p := plan(3, 40, 1, 9)
	for ticks := range 12 {
		for gone := range 5 {
			n := begun(t, c, w, p)
			var there []decode.Task
			for _, key := range [][2]int{{2, 0}, {0, 2}, {2, 1}, {0, 0}, {math.MaxInt, math.MaxInt}} {
				x := decode.Task{Req: key[0], Try: key[1], Prompt: []int{1, 2, 1, 1, 2, 0}, Most: 9}
				n.Begin(x, "")
				there = append(there, x)
			}
			for range ticks {
				if l := n.Tick(); len(l) != 0 {
					t.Fatalf("too soon: %v", l)
				}
			}
			for _, key := range [][2]int{{-1, 0}, {0, -1}, {1, 0}, {0, 1}, {2, 2}, {math.MinInt, math.MinInt}, {math.MaxInt, 0}} {
				if n.Drop(key[0], key[1]) {
					t.Fatalf("Drop(%v): there is none", key)
				}
			}
			accounted(t, n, p, there)
			x := there[gone]
			if !n.Drop(x.Req, x.Try) || n.Drop(x.Req, x.Try) {
				t.Fatalf("Drop of %v", x)
			}
			there = slices.Delete(there, gone, gone+1)
			accounted(t, n, p, there)
			var left []decode.Answer
			for range 14 - ticks {
				left = append(left, n.Tick()...)
			}
			if len(left) != 4 || slices.ContainsFunc(left, func(a decode.Answer) bool { return a.Req == x.Req && a.Try == x.Try }) {
				t.Fatalf("behind Drop of %v: %v", x, left)
			}
			accounted(t, n, p, nil)
		}
	}
}
