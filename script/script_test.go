package script_test

import (
	"fmt"
	"math"
	"math/rand"
	"slices"
	"testing"

	"tiller/api"
	"tiller/fleet"
	"tiller/router"
	"tiller/script"
)

// small is a configuration of which a pass is quick.
func small() api.Config {
	return api.Config{Vocab: 7, Dim: 4, Heads: 2, Hidden: 6, Layers: 2}
}

// great is the greatest configuration.
func great() api.Config {
	return api.Config{Vocab: 64, Dim: 32, Heads: 4, Hidden: 64, Layers: 4}
}

// played is the trace of a script in a setup that is right.
func played(t *testing.T, s fleet.Setup, events ...script.Event) script.Trace {
	t.Helper()
	x, e := script.Play(s, events)
	if e != api.OK || len(x.Errors) != len(events) {
		t.Fatalf("Play(%v, %v): %v, %d", s, events, x, e)
	}
	return x
}

// submit is a request that comes.
func submit(most int, prompt ...int) script.Event {
	return script.Event{Kind: script.Submit, Prompt: prompt, Most: most}
}

// of is an event of a kind, of a node, a place, or so many rounds.
func of(kind, i int) script.Event {
	return script.Event{Kind: kind, I: i}
}

// sameAsked and sameEnded tell whether two are the same; an empty list and none are.
func sameAsked(a, b script.Asked) bool {
	return a.Event == b.Event && slices.Equal(a.Prompt, b.Prompt) && a.Most == b.Most
}

func sameEnded(a, b script.Ended) bool {
	return a.Event == b.Event && a.Req == b.Req && a.End == b.End && slices.Equal(a.Tokens, b.Tokens)
}

// same tells whether two traces are the same.
func same(a, b script.Trace) bool {
	return slices.Equal(a.Errors, b.Errors) && slices.EqualFunc(a.Asked, b.Asked, sameAsked) && slices.EqualFunc(a.Ended, b.Ended, sameEnded) && a.Open == b.Open
}

// copied is the same trace in memory of its own.
func copied(x script.Trace) script.Trace {
	y := script.Trace{Errors: slices.Clone(x.Errors), Asked: slices.Clone(x.Asked), Ended: slices.Clone(x.Ended), Open: x.Open}
	for i := range y.Asked {
		y.Asked[i].Prompt = slices.Clone(y.Asked[i].Prompt)
	}
	for i := range y.Ended {
		y.Ended[i].Tokens = slices.Clone(y.Ended[i].Tokens)
	}
	return y
}

// among is one of some numbers.
func among(rnd *rand.Rand, l ...int) int {
	return l[rnd.Intn(len(l))]
}

// anySetup is a setup that is right, of small numbers and of some about the bounds.
func anySetup(rnd *rand.Rand) fleet.Setup {
	prefills := 1 + rnd.Intn(6)
	return fleet.Setup{
		Model: api.Config{Vocab: 2 + rnd.Intn(6), Dim: 2, Heads: 1 + rnd.Intn(2), Hidden: 1 + rnd.Intn(4), Layers: 1 + rnd.Intn(2)},
		Seed:  rnd.Uint64(),
		Door:  router.Plan{Prefills: prefills, Decodes: 1 + rnd.Intn(7-prefills), Table: among(rnd, 1, 3, 8, 64), Wait: among(rnd, 1, 4, 10, 30, 60), Tries: among(rnd, 1, 2, 3, 5, 16)},
		Page:  among(rnd, 1, 2, 3, 16), Pages: among(rnd, 1, 4, 10, 64), Rate: among(rnd, 1, 2, 4, 128),
		Queue: among(rnd, 1, 3, 8, 64), Slots: among(rnd, 1, 2, 4, 64),
		Part: among(rnd, 1, 16, 50, 256, 4096),
		Term: among(rnd, 1, 3, 8, 20, 1<<20), Margin: among(rnd, 0, 0, 1, 2, 5),
	}
}

// mood is how often each kind of event comes, by the kinds' numbers; 0 stands for those that aren't one.
type mood [14]int

// anyMood is a mood: in some one kind of event comes again and again, or never.
func anyMood(rnd *rand.Rand) mood {
	m := mood{1, 7, 30, 24, 5, 5, 5, 4, 2, 3, 1, 1, 2, 1}
	for range rnd.Intn(4) {
		m[rnd.Intn(len(m))] *= 1 + rnd.Intn(12)
	}
	for range rnd.Intn(4) {
		m[rnd.Intn(len(m))] = 0
	}
	m[script.Submit]++
	return m
}

// pick is a kind of event.
func (m mood) pick(rnd *rand.Rand) int {
	all := 0
	for _, n := range m {
		all += n
	}
	at := rnd.Intn(all)
	for kind, n := range m {
		if at -= n; at < 0 {
			return kind
		}
	}
	return 0
}

// anyNumber is one of 0 to 9, mostly, or any other one.
func anyNumber(rnd *rand.Rand) int {
	switch rnd.Intn(10) {
	case 0:
		return among(rnd, math.MinInt, math.MinInt+1, math.MaxInt-1, math.MaxInt)
	case 1:
		return -1 - rnd.Intn(300)
	case 2:
		return rnd.Intn(1000)
	case 3:
		return int(rnd.Uint64())
	}
	return rnd.Intn(10)
}

// anyPrompt is a prompt, of which many begin alike, and seldom one that is refused.
func anyPrompt(rnd *rand.Rand, vocab, most int) []int {
	if rnd.Intn(20) == 0 {
		return [][]int{nil, {-1}, {0, vocab}, {math.MaxInt}, make([]int, 128), make([]int, 129)}[rnd.Intn(6)]
	}
	l := make([]int, 1+rnd.Intn(most))
	for i := range l {
		l[i] = rnd.Intn(min(vocab, 2+rnd.Intn(vocab)))
	}
	return l
}

// anyEvent is an event of any kind.
func anyEvent(rnd *rand.Rand, m mood, vocab int) script.Event {
	x := script.Event{Kind: m.pick(rnd), I: anyNumber(rnd), At: rnd.Intn(300), Bits: rnd.Uint32() >> rnd.Intn(32)}
	switch x.Kind {
	case 0:
		x.Kind = among(rnd, math.MinInt, -1, 0, 14, 15, 99, math.MaxInt)
	case script.Submit:
		x.Prompt, x.Most = anyPrompt(rnd, vocab, 6), rnd.Intn(8)
		if rnd.Intn(15) == 0 {
			x.Most = anyNumber(rnd)
		}
	case script.Turn:
		if rnd.Intn(10) == 0 {
			x.At = anyNumber(rnd)
		}
	case script.Calm:
		if rnd.Intn(3) != 0 {
			x.I = rnd.Intn(5)
		}
	}
	return x
}

// anyScript is a script of so many events.
func anyScript(rnd *rand.Rand, vocab, events int) []script.Event {
	m := anyMood(rnd)
	var l []script.Event
	for range events {
		l = append(l, anyEvent(rnd, m, vocab))
	}
	return l
}

// The chapter's example.
func TestExample(t *testing.T) {
	for _, c := range []api.Config{small(), great(), {Vocab: 2, Dim: 1, Heads: 1, Hidden: 1, Layers: 1}} {
		p := []int{1, min(2, c.Vocab-1)}
		x := played(t, fleet.Plain(c, 7), submit(3, p...), of(script.Calm, 100))
		if !slices.Equal(x.Errors, []api.Errno{api.OK, api.OK}) || x.Open != 0 {
			t.Errorf("%v: %v", c, x)
		}
		if len(x.Asked) != 1 || !sameAsked(x.Asked[0], script.Asked{Event: 0, Prompt: p, Most: 3}) {
			t.Errorf("%v: asked %v", c, x.Asked)
		}
		if len(x.Ended) != 1 || !sameEnded(x.Ended[0], script.Ended{Event: 1, Req: 0, End: router.Completed, Tokens: said(c, 7, 3, p...)}) {
			t.Errorf("%v: ended %v", c, x.Ended)
		}
		if at, e := script.Judge(c, 7, x); at != -1 || e != api.OK {
			t.Errorf("%v: Judge %d, %d", c, at, e)
		}
	}
}

// Kinds have the chapter's numbers.
func TestKinds(t *testing.T) {
	kinds := []int{script.Submit, script.Tick, script.Deliver, script.Double, script.Lose, script.Move, script.Turn, script.Crash, script.Start, script.Lapse, script.Drain, script.Join, script.Calm}
	for i, kind := range kinds {
		if kind != i+1 {
			t.Errorf("kind %d is %d", i+1, kind)
		}
	}
}

// text is a trace in short.
func text(x script.Trace) string {
	return fmt.Sprintf("%v, asked %v, ended %v, %d open", x.Errors, x.Asked, x.Ended, x.Open)
}
