package fleet_test

import (
	"fmt"
	"math"
	"math/rand"
	"slices"
	"testing"

	"tiller/api"
	"tiller/block"
	"tiller/fleet"
	"tiller/greedy"
	"tiller/model"
	"tiller/pass"
	"tiller/router"
)

// small is a configuration of which a pass is quick.
func small() api.Config {
	return api.Config{Vocab: 7, Dim: 4, Heads: 2, Hidden: 6, Layers: 2}
}

// great is the greatest configuration.
func great() api.Config {
	return api.Config{Vocab: 64, Dim: 32, Heads: 4, Hidden: 64, Layers: 4}
}

// watch is a fleet that is held against the promises behind every call.
type watch struct {
	t       *testing.T
	what    string
	s       fleet.Setup
	w       *fleet.World
	weights model.Weights
	answers map[string][]int      // what the model says, as far as it was asked
	caches  map[string]pass.Cache // what it keeps
	ended   []router.Entry        // as they were first seen to have ended, by their numbers
	shared  int                   // how often a place was believed in while clocks kept to the margin
	said    int                   // how many were Completed
}

// watched is a new fleet, and who watches it.
func watched(t *testing.T, s fleet.Setup, what string, args ...any) *watch {
	t.Helper()
	w, e := fleet.New(s)
	if e != api.OK || w == nil {
		t.Fatalf("New(%v): %d", s, e)
	}
	weights, _ := model.Make(s.Model, s.Seed)
	return &watch{t: t, what: fmt.Sprintf(what, args...), s: s, w: w, weights: weights, answers: map[string][]int{}, caches: map[string]pass.Cache{}}
}

// fail tells an error of this fleet.
func (x *watch) fail(what string, args ...any) {
	x.t.Helper()
	x.t.Fatalf("%s: %s", x.what, fmt.Sprintf(what, args...))
}

// says is what the model says behind a prompt.
func (x *watch) says(prompt []int, most int) []int {
	key := fmt.Sprint(prompt, most)
	if _, known := x.answers[key]; !known {
		x.answers[key], _ = greedy.Run(x.s.Model, x.weights, prompt, most)
	}
	return x.answers[key]
}

// keeps is what the model keeps of tokens.
func (x *watch) keeps(tokens []int) pass.Cache {
	key := fmt.Sprint(tokens)
	if _, known := x.caches[key]; !known {
		_, x.caches[key], _ = pass.Full(x.s.Model, x.weights, tokens)
	}
	return x.caches[key]
}

// check holds the fleet against P25.2, P25.3 and P25.4.
func (x *watch) check() {
	x.t.Helper()
	x.checkAnswers()
	x.checkPages()
	if n := x.w.Way(); n < 0 || n > 256 {
		x.fail("%d frames are on their way", n)
	}
	if x.w.Drift() > x.s.Margin {
		return
	}
	for to := -1; to <= 9; to++ {
		l := x.w.Believers(to)
		if len(l) > 1 || len(l) == 1 && (l[0] < 1 || l[0] > x.s.Door.Prefills || to <= x.s.Door.Prefills || to >= x.w.Nodes()) {
			x.fail("with drift %d %v believe in %d", x.w.Drift(), l, to)
		}
		x.shared += len(l)
	}
}

// checkAnswers: what is Completed is what the model says, and what has ended stays as it ended.
func (x *watch) checkAnswers() {
	x.t.Helper()
	count, open := x.w.Requests()
	still := 0
	for req := range count {
		e, ok := x.w.Entry(req)
		if !ok || e.Order.Req != req {
			x.fail("request %d: %v, %v", req, e, ok)
		}
		if req == len(x.ended) {
			x.ended = append(x.ended, router.Entry{})
		}
		if was := x.ended[req]; was.End != router.Open {
			if !sameEntry(e, was) {
				x.fail("request %d: %v, it had ended as %v", req, e, was)
			}
			continue
		}
		switch e.End {
		case router.Open:
			still++
		case router.Completed:
			x.said++
			if want := x.says(e.Prompt, e.Most); !slices.Equal(e.Answer, want) {
				x.fail("request %d: %v, the model says %v", req, e, want)
			}
		case router.Failed:
			if len(e.Answer) != 0 {
				x.fail("request %d failed with an answer: %v", req, e)
			}
		default:
			x.fail("request %d: %v", req, e)
		}
		x.ended[req] = e
	}
	if still != open || open > x.s.Door.Table {
		x.fail("%d are open, but %d are told", still, open)
	}
}

// checkPages: pages hold what the model keeps of their tokens, and all pages are accounted for.
func (x *watch) checkPages() {
	x.t.Helper()
	for i := -1; i <= 9; i++ {
		free, needed, idle := x.w.Counts(i)
		pages := x.w.Pages(i)
		isWorker, isNode := i >= 1 && i <= x.s.Door.Prefills, i >= 1 && i < x.w.Nodes()
		if !isNode && (free != 0 || needed != 0 || idle != 0) || isNode && (min(free, needed, idle) < 0 || free+needed+idle != x.s.Pages) {
			x.fail("node %d: %d, %d, %d of %d pages", i, free, needed, idle, x.s.Pages)
		}
		if isWorker && (needed != 0 || idle != len(pages)) || !isWorker && (idle != 0 || len(pages) != 0) {
			x.fail("node %d: %d needed, %d idle, %d kept", i, needed, idle, len(pages))
		}
		for _, b := range pages {
			if !x.isKept(b) {
				x.fail("node %d keeps %v", i, b)
			}
		}
	}
}

// isKept tells whether a page is a full one, with what the model keeps of its tokens.
func (x *watch) isKept(b block.Block) bool {
	if len(b.Tokens)-b.From != x.s.Page || b.From%x.s.Page != 0 {
		return false
	}
	want := x.keeps(b.Tokens)
	same := func(rows, all [][]api.Num) bool { return slices.EqualFunc(rows, all[b.From:], slices.Equal) }
	return slices.EqualFunc(b.Cache.Keys, want.Keys, same) && slices.EqualFunc(b.Cache.Vals, want.Vals, same)
}

// sameEntry tells whether two Entries are the same.
func sameEntry(a, b router.Entry) bool {
	return a.Order == b.Order && slices.Equal(a.Prompt, b.Prompt) && a.Most == b.Most && a.At == b.At && a.End == b.End && slices.Equal(a.Answer, b.Answer)
}

// anyTokens is a prompt of at most so many tokens, of which many begin alike.
func anyTokens(rnd *rand.Rand, vocab, most int) []int {
	l := make([]int, 1+rnd.Intn(most))
	for i := range l {
		l[i] = rnd.Intn(min(vocab, 2+rnd.Intn(vocab)))
	}
	return l
}

// mood is how often each kind of call comes, in the order of anyCall.
type mood [13]int

// anyMood is a mood: in some one kind of call comes again and again, or never.
func anyMood(rnd *rand.Rand) mood {
	m := mood{6, 30, 24, 5, 5, 5, 4, 2, 3, 1, 1, 2, 1}
	for range rnd.Intn(4) {
		m[rnd.Intn(len(m))] *= 1 + rnd.Intn(12)
	}
	for range rnd.Intn(4) {
		m[rnd.Intn(len(m))] = 0
	}
	m[0]++
	return m
}

// pick is a kind of call.
func (m mood) pick(rnd *rand.Rand) int {
	all := 0
	for _, n := range m {
		all += n
	}
	at := rnd.Intn(all)
	for kind, n := range m {
		if at -= n; at < 0 {
			return kind
		}
	}
	return 0
}

// near is a number from 0 to n - 1, or, seldom, any other one.
func near(rnd *rand.Rand, n int) int {
	if n < 1 || rnd.Intn(25) == 0 {
		return []int{math.MinInt, -1, 0, n, n + 1, math.MaxInt}[rnd.Intn(6)]
	}
	return rnd.Intn(n)
}

// tokens and more are bounds of what anyCall submits.
type bounds struct {
	tokens, more, rounds int
}

// anyCall makes any call, and holds its error against the chapter.
func (x *watch) anyCall(rnd *rand.Rand, m mood, most bounds) {
	x.t.Helper()
	w, n, way := x.w, x.w.Nodes(), x.w.Way()
	i, at := near(rnd, n), near(rnd, way)
	isNode, isPlace := i >= 0 && i < n, at >= 0 && at < way
	switch kind := m.pick(rnd); kind {
	case 0:
		w.Submit(anyTokens(rnd, x.s.Model.Vocab, most.tokens), 1+rnd.Intn(most.more))
	case 1:
		x.is("Tick", w.Tick(i), isNode)
	case 2:
		x.is("Deliver", w.Deliver(at, false), isPlace)
	case 3:
		x.is("Deliver twice", w.Deliver(at, true), isPlace)
	case 4:
		x.is("Lose", w.Lose(at), isPlace)
	case 5:
		x.is("Move", w.Move(at), isPlace)
	case 6:
		if e := w.Turn(at, near(rnd, 300), rnd.Uint32()>>rnd.Intn(32)); (e == api.ErrNone) == isPlace || e != api.OK && e != api.ErrNone && e != api.ErrArg && e != api.ErrThere {
			x.fail("Turn: %d", e)
		}
	case 7:
		if e := w.Crash(i); (e == api.ErrNone) == (isNode && i > 0) || e != api.OK && e != api.ErrNone && e != api.ErrDown {
			x.fail("Crash(%d): %d", i, e)
		}
	case 8:
		if e := w.Start(i); (e == api.ErrNone) == (isNode && i > 0) || e != api.OK && e != api.ErrNone && e != api.ErrThere {
			x.fail("Start(%d): %d", i, e)
		}
	case 9:
		w.Lapse()
	case 10:
		x.is("Drain", w.Drain(i), isNode && i > 0)
	case 11:
		x.is("Join", w.Join(i), isNode && i > 0)
	case 12:
		w.Calm(rnd.Intn(most.rounds+2) - 1)
	}
}

// is tells an error, if a call's error isn't OK or ErrNone, as there is such a thing or not.
func (x *watch) is(call string, e api.Errno, there bool) {
	x.t.Helper()
	if there && e != api.OK || !there && e != api.ErrNone {
		x.fail("%s: %d", call, e)
	}
}

// until goes on by steps until something is so, at most 100 of them.
func (x *watch) until(is func() bool, step func()) {
	x.t.Helper()
	for range 100 {
		if is() {
			return
		}
		step()
	}
	x.fail("what is waited for doesn't come")
}

// isBelieved tells whether somebody believes in one of some places.
func (x *watch) isBelieved(places ...int) bool {
	return slices.ContainsFunc(places, func(to int) bool { return len(x.w.Believers(to)) > 0 })
}
