package script_test

import (
	"math"
	"math/rand"
	"slices"
	"testing"

	"tiller/api"
	"tiller/fleet"
	"tiller/greedy"
	"tiller/model"
	"tiller/router"
	"tiller/script"
)

// court is a model by which traces are judged, and what it says of prompts.
type court struct {
	t       *testing.T
	c       api.Config
	seed    uint64
	weights model.Weights
}

// newCourt is the court of the small model.
func newCourt(t *testing.T) *court {
	weights, _ := model.Make(small(), 7)
	return &court{t: t, c: small(), seed: 7, weights: weights}
}

// is holds Judge of a trace against a place and an error.
func (k *court) is(what string, x script.Trace, at int, e api.Errno) {
	k.t.Helper()
	was := copied(x)
	if gotAt, got := script.Judge(k.c, k.seed, x); gotAt != at || got != e {
		k.t.Errorf("%s: Judge(%s): %d, %d, not %d, %d", what, text(x), gotAt, got, at, e)
	}
	if !same(x, was) {
		k.t.Errorf("%s: the trace was %s, and is %s", what, text(was), text(x))
	}
}

// trace is a right one: of four requests the second one is open, the third one failed.
func (k *court) trace() script.Trace {
	x := script.Trace{
		Errors: []api.Errno{api.OK, api.ErrKind},
		Asked:  []script.Asked{{Event: 2, Prompt: []int{1, 4, 2}, Most: 4}, {Event: 2, Prompt: []int{3}, Most: 3}, {Event: 5, Prompt: []int{6, 6}, Most: 1}, {Event: 6, Prompt: []int{2, 2}, Most: 5}},
		Open:   1,
	}
	for _, req := range []int{3, 0} {
		a := x.Asked[req]
		x.Ended = append(x.Ended, script.Ended{Event: 9, Req: req, End: router.Completed, Tokens: said(k.c, k.seed, a.Most, a.Prompt...)})
	}
	x.Ended = append(x.Ended, script.Ended{Event: 10, Req: 2, End: router.Failed})
	return x
}

// spoilt holds Judge of the right trace, of which something was changed, against a place and an error.
func (k *court) spoilt(what string, at int, e api.Errno, change func(x *script.Trace)) {
	k.t.Helper()
	x := k.trace()
	change(&x)
	k.is(what, x, at, e)
}

// Judge of a right trace, of one without anything, and of errors and events of any kind, which it doesn't ask for.
func TestRight(t *testing.T) {
	k := newCourt(t)
	k.is("right", k.trace(), -1, api.OK)
	k.is("nothing", script.Trace{}, -1, api.OK)
	k.is("nothing", script.Trace{Errors: []api.Errno{}, Asked: []script.Asked{}, Ended: []script.Ended{}}, -1, api.OK)
	k.spoilt("other errors", -1, api.OK, func(x *script.Trace) { x.Errors = []api.Errno{-7, 99} })
	k.spoilt("events beyond", -1, api.OK, func(x *script.Trace) {
		x.Ended[0].Event, x.Ended[1].Event, x.Ended[2].Event = math.MaxInt, 2, 5
	})
	k.spoilt("an open one that isn't right", -1, api.OK, func(x *script.Trace) { x.Asked[1] = script.Asked{Event: math.MinInt, Prompt: []int{99}, Most: -1} })
	k.spoilt("a failed one that isn't right", -1, api.OK, func(x *script.Trace) { x.Asked[2] = script.Asked{Event: math.MinInt, Most: -1} })
	k.spoilt("failed with an empty list", -1, api.OK, func(x *script.Trace) { x.Ended[2].Tokens = []int{} })
}

// A configuration that isn't right: its error, and -1, whatever else is wrong.
func TestWrongModel(t *testing.T) {
	k := newCourt(t)
	wrong := k.trace()
	wrong.Ended[0].Req, wrong.Open = 77, -1
	for _, c := range []api.Config{
		{}, {Vocab: 1, Dim: 4, Heads: 2, Hidden: 6, Layers: 2}, {Vocab: 7, Dim: 0, Heads: 2, Hidden: 6, Layers: 2}, {Vocab: 65, Dim: 4, Heads: 2, Hidden: 6, Layers: 2},
		{Vocab: 7, Dim: 4, Heads: 3, Hidden: 6, Layers: 2}, {Vocab: 7, Dim: 4, Heads: 2, Hidden: math.MaxInt, Layers: 2}, {Vocab: 7, Dim: 4, Heads: 2, Hidden: 6, Layers: math.MinInt},
	} {
		_, want := model.Make(c, 7)
		for _, x := range []script.Trace{{}, k.trace(), wrong} {
			if at, e := script.Judge(c, 7, x); at != -1 || e != want || e == api.OK {
				t.Errorf("Judge(%v): %d, %d, not %d", c, at, e, want)
			}
		}
	}
}

// Another model, or another seed of it, says otherwise.
func TestOtherModel(t *testing.T) {
	k := newCourt(t)
	k.seed = 8
	if a := k.trace().Ended[0].Tokens; slices.Equal(a, newCourt(t).trace().Ended[0].Tokens) {
		t.Fatalf("both say %v", a)
	}
	if at, e := script.Judge(k.c, 7, k.trace()); at != 0 || e != api.ErrSum {
		t.Errorf("Judge of another seed's: %d, %d", at, e)
	}
	k.is("by its own seed", k.trace(), -1, api.OK)
}

// Each fault alone, in each of those that ended.
func TestFaults(t *testing.T) {
	k := newCourt(t)
	for _, req := range []int{math.MinInt, -1, 4, 5, 1000, math.MaxInt} {
		for i := range 3 {
			k.spoilt("no such request", i, api.ErrNone, func(x *script.Trace) { x.Ended[i].Req = req })
		}
	}
	k.spoilt("twice", 1, api.ErrThere, func(x *script.Trace) { x.Ended[1] = x.Ended[0] })
	k.spoilt("twice", 2, api.ErrThere, func(x *script.Trace) { x.Ended[2] = x.Ended[0] })
	k.spoilt("twice", 3, api.ErrThere, func(x *script.Trace) { x.Ended, x.Open = append(x.Ended, x.Ended[2]), 0 })
	for i := range 3 {
		for _, end := range []int{math.MinInt, -1, 0, 3, 4, 1 << 32, 1<<32 + 1, math.MaxInt} {
			k.spoilt("another end", i, api.ErrKind, func(x *script.Trace) { x.Ended[i].End = end })
		}
	}
	for i, event := range []int{5, 1, 4} { // one ahead of that by which it was asked
		k.spoilt("just too soon", i, api.ErrLate, func(x *script.Trace) { x.Ended[i].Event = event })
		k.spoilt("much too soon", i, api.ErrLate, func(x *script.Trace) { x.Ended[i].Event = math.MinInt })
		k.spoilt("the same event", -1, api.OK, func(x *script.Trace) { x.Ended[i].Event = event + 1 })
	}
	for _, tokens := range [][]int{{0}, {1, 2}, {-1}, make([]int, 500)} {
		k.spoilt("failed with tokens", 2, api.ErrForm, func(x *script.Trace) { x.Ended[2].Tokens = tokens })
	}
}

// Prompts and numbers that the model refuses; a failed one isn't asked about them.
func TestRefusedPrompts(t *testing.T) {
	k := newCourt(t)
	for _, c := range []struct {
		prompt []int
		most   int
		e      api.Errno
	}{
		{nil, 4, api.ErrNone}, {[]int{}, 0, api.ErrNone}, {[]int{7}, 4, api.ErrToken}, {[]int{1, -1}, 0, api.ErrToken}, {[]int{1}, 0, api.ErrArg}, {[]int{1}, math.MinInt, api.ErrArg},
		{[]int{1}, 128, api.ErrBig}, {[]int{1}, math.MaxInt, api.ErrBig}, {make([]int, 128), 1, api.ErrBig}, {make([]int, 129), 0, api.ErrBig}, {make([]int, 128), 0, api.ErrArg},
	} {
		k.spoilt("refused", 1, c.e, func(x *script.Trace) { x.Asked[0].Prompt, x.Asked[0].Most = c.prompt, c.most })
		k.spoilt("refused, without tokens", 1, c.e, func(x *script.Trace) {
			x.Asked[0].Prompt, x.Asked[0].Most, x.Ended[1].Tokens = c.prompt, c.most, nil
		})
		k.spoilt("refused, and failed", -1, api.OK, func(x *script.Trace) { x.Asked[2].Prompt, x.Asked[2].Most = c.prompt, c.most })
	}
}

// Tokens that are wrong at each place, too few, too many, none.
func TestWrongTokens(t *testing.T) {
	k := newCourt(t)
	for i := range 2 {
		right := k.trace().Ended[i].Tokens
		wrong := [][]int{nil, {}, right[:len(right)-1], append(slices.Clone(right), 0), append(slices.Clone(right), right...), slices.Repeat([]int{1}, 500)}
		for at := range right {
			for _, token := range []int{math.MinInt, -1, right[at] - 1, right[at] + 1, right[at] + 1<<32, math.MaxInt} {
				other := slices.Clone(right)
				other[at] = token
				wrong = append(wrong, other)
			}
		}
		for _, tokens := range wrong {
			k.spoilt("wrong tokens", i, api.ErrSum, func(x *script.Trace) { x.Ended[i].Tokens = tokens })
		}
	}
}

// An Open that isn't what is left; where one that ended is wrong that is told, whatever Open is.
func TestOpen(t *testing.T) {
	k := newCourt(t)
	for _, open := range []int{math.MinInt, math.MinInt + 1, -4, -1, 0, 2, 4, math.MaxInt - 3, math.MaxInt - 2, math.MaxInt} {
		k.spoilt("Open", -1, api.ErrLen, func(x *script.Trace) { x.Open = open })
		k.spoilt("Open and tokens", 2, api.ErrForm, func(x *script.Trace) { x.Open, x.Ended[2].Tokens = open, []int{1} })
		if open != 0 {
			k.is("Open of nothing", script.Trace{Open: open}, -1, api.ErrLen)
		}
	}
	k.spoilt("one that ended is wanting", -1, api.ErrLen, func(x *script.Trace) { x.Ended = x.Ended[:2] })
	k.spoilt("it is open", -1, api.OK, func(x *script.Trace) { x.Ended, x.Open = x.Ended[:2], 2 })
	k.spoilt("one that was asked is wanting", -1, api.ErrLen, func(x *script.Trace) { x.Asked = append(x.Asked, x.Asked[0]) })
	k.spoilt("none ended", -1, api.OK, func(x *script.Trace) { x.Ended, x.Open = nil, 4 })
}

// faults are all that is wrong with one of those that ended, in the chapter's order, as far as one can be asked for behind another.
func (k *court) faults(x script.Trace, at int) []api.Errno {
	y := x.Ended[at]
	if y.Req < 0 || y.Req > len(x.Asked)-1 {
		return []api.Errno{api.ErrNone}
	}
	var l []api.Errno
	if slices.ContainsFunc(x.Ended[:at], func(z script.Ended) bool { return z.Req == y.Req }) {
		l = append(l, api.ErrThere)
	}
	if !slices.Contains([]int{1, 2}, y.End) {
		l = append(l, api.ErrKind)
	}
	a := x.Asked[y.Req]
	if a.Event > y.Event {
		l = append(l, api.ErrLate)
	}
	if y.End == 2 && len(y.Tokens) > 0 {
		l = append(l, api.ErrForm)
	}
	if y.End == 1 {
		want, e := greedy.Run(k.c, k.weights, a.Prompt, a.Most)
		if e != api.OK {
			l = append(l, e)
		}
		if !slices.Equal(want, y.Tokens) {
			l = append(l, api.ErrSum)
		}
	}
	return l
}

// verdict is what Judge is to say of a trace.
func (k *court) verdict(x script.Trace) (int, api.Errno) {
	for at := range x.Ended {
		if l := k.faults(x, at); len(l) > 0 {
			return at, l[0]
		}
	}
	if x.Open < 0 || x.Open > len(x.Asked) || x.Open+len(x.Ended) != len(x.Asked) {
		return -1, api.ErrLen
	}
	return -1, api.OK
}

// every is each one that ended with any of some numbers, ends, events and tokens.
func every(reqs, ends, events []int, tokens [][]int) []script.Ended {
	var l []script.Ended
	for _, req := range reqs {
		for _, end := range ends {
			for _, event := range events {
				for _, row := range tokens {
					l = append(l, script.Ended{Event: event, Req: req, End: end, Tokens: row})
				}
			}
		}
	}
	return l
}

// P26.2: every choice of faults of one that ended; and, of those, many of several.
func TestManyFaults(t *testing.T) {
	k := newCourt(t)
	asked := []script.Asked{{Event: 3, Prompt: []int{1, 4, 2}, Most: 2}, {Event: 4, Prompt: []int{7}, Most: 2}, {Event: 3, Prompt: []int{2}, Most: 0}, {Event: 5, Prompt: []int{1, 4, 2}, Most: 2}}
	right := said(k.c, k.seed, 2, 1, 4, 2)
	all := every([]int{math.MinInt, -1, 0, 1, 2, 3, 4, math.MaxInt}, []int{math.MinInt, -1, 0, 1, 2, 3, math.MaxInt}, []int{math.MinInt, 2, 3, 4, 5, math.MaxInt}, [][]int{nil, {}, right, right[:1], append(slices.Clone(right), 0), {right[0], 6 - right[1]}})
	hold := func(x script.Trace) {
		at, e := k.verdict(x)
		k.is("faults", x, at, e)
	}
	for _, y := range all {
		for _, open := range []int{2, 3, 4} {
			hold(script.Trace{Asked: asked, Ended: []script.Ended{y}, Open: open})
		}
	}
	var fine []script.Ended
	for _, y := range all {
		if len(k.faults(script.Trace{Asked: asked, Ended: []script.Ended{y}}, 0)) == 0 {
			fine = append(fine, y)
		}
	}
	rnd := rand.New(rand.NewSource(1))
	places := map[int]int{}
	for range 30000 {
		x := script.Trace{Asked: asked}
		for range rnd.Intn(6) {
			from := fine
			if rnd.Intn(4) == 0 {
				from = all
			}
			x.Ended = append(x.Ended, from[rnd.Intn(len(from))])
		}
		x.Open = len(x.Asked) - len(x.Ended) + rnd.Intn(2)*(rnd.Intn(5)-2)
		at, _ := k.verdict(x)
		places[at]++
		hold(x)
	}
	for at := -1; at < 5; at++ {
		if places[at] < 30 {
			t.Errorf("place %d %d times: too few to tell", at, places[at])
		}
	}
}

// P26.2: traces of scripts, in which something was changed; the tenth example of the whole is among them.
func TestChangedTraces(t *testing.T) {
	wrong := map[api.Errno]int{}
	for seed := range int64(400) {
		rnd := rand.New(rand.NewSource(seed))
		s := anySetup(rnd)
		x := played(t, s, append(anyScript(rnd, s.Model.Vocab, 60), of(script.Calm, 100))...)
		weights, _ := model.Make(s.Model, s.Seed)
		k := &court{t: t, c: s.Model, seed: s.Seed, weights: weights}
		for range 8 {
			y := copied(x)
			for range 1 + rnd.Intn(2) {
				change(rnd, &y)
			}
			at, e := k.verdict(y)
			k.is("changed", y, at, e)
			wrong[e]++
		}
	}
	for _, e := range []api.Errno{api.ErrNone, api.ErrThere, api.ErrKind, api.ErrLate, api.ErrForm, api.ErrSum, api.ErrLen} {
		if wrong[e] < 10 {
			t.Errorf("error %d %d times: too few to tell", e, wrong[e])
		}
	}
}

// change makes another trace of one.
func change(rnd *rand.Rand, x *script.Trace) {
	if len(x.Ended) == 0 || rnd.Intn(8) == 0 {
		x.Open += 1 - rnd.Intn(3)
		return
	}
	i := rnd.Intn(len(x.Ended))
	y := &x.Ended[i]
	switch rnd.Intn(8) {
	case 0:
		y.Req = rnd.Intn(len(x.Asked)+2) - 1
	case 1:
		y.End = rnd.Intn(5) - 1
	case 2:
		y.Event -= rnd.Intn(60)
	case 3:
		y.Tokens = append(y.Tokens, rnd.Intn(3))
	case 4:
		y.Tokens = y.Tokens[:rnd.Intn(len(y.Tokens)+1)]
	case 5:
		if len(y.Tokens) > 0 {
			y.Tokens[rnd.Intn(len(y.Tokens))]++
		}
	case 6:
		x.Ended = slices.Delete(x.Ended, i, i+1)
	case 7:
		x.Asked[y.Req%len(x.Asked)].Most += rnd.Intn(3) - 1
	}
}

// The tenth example of the whole: one token of an answer is another one.
func TestAnotherToken(t *testing.T) {
	s := fleet.Plain(small(), 7)
	x := played(t, s, submit(6, 1, 2), submit(6, 3, 4), of(script.Calm, 100))
	for i := range x.Ended {
		for at := range x.Ended[i].Tokens {
			y := copied(x)
			y.Ended[i].Tokens[at] = (y.Ended[i].Tokens[at] + 1) % 7
			if place, e := script.Judge(small(), 7, y); place != i || e != api.ErrSum {
				t.Errorf("token %d of %d: %d, %d", at, i, place, e)
			}
		}
	}
}
