package script_test

import (
	"math/rand"
	"slices"
	"testing"

	"tiller/api"
	"tiller/fleet"
	"tiller/router"
	"tiller/script"
)

// isJudged tells an error, if Judge of what a script came to isn't OK.
func isJudged(t *testing.T, seed int64, s fleet.Setup, x script.Trace) {
	t.Helper()
	if at, e := script.Judge(s.Model, s.Seed, x); at != -1 || e != api.OK {
		t.Fatalf("seed %d: Judge of %s: %d, %d", seed, text(x), at, e)
	}
}

// P26.3: whatever the script, Judge of what Play answers is OK.
func TestJudge(t *testing.T) {
	completed, failed, open := 0, 0, 0
	for seed := range int64(4000) {
		rnd := rand.New(rand.NewSource(seed))
		s := anySetup(rnd)
		if seed%3 == 0 {
			s = fleet.Plain(small(), rnd.Uint64())
		}
		x := played(t, s, anyScript(rnd, s.Model.Vocab, rnd.Intn(300))...)
		isJudged(t, seed, s, x)
		for _, y := range x.Ended {
			if y.End == router.Completed {
				completed++
			} else {
				failed++
			}
		}
		open += x.Open
	}
	if completed < 2000 || failed < 2000 || open < 2000 {
		t.Errorf("%d completed, %d failed, %d open: too few to tell", completed, failed, open)
	}
}

// P26.3: with the greatest model, with long prompts and many more tokens, and of which much is late, lost and spoilt.
func TestJudgeLong(t *testing.T) {
	completed := 0
	for seed := range int64(40) {
		rnd := rand.New(rand.NewSource(seed))
		s := fleet.Plain(small(), rnd.Uint64())
		if seed%20 == 0 {
			s.Model = great()
		}
		s.Door.Wait, s.Part = among(rnd, 10, 60, 200), among(rnd, 16, 100, 256, 4096)
		m := anyMood(rnd)
		var l []script.Event
		for range 300 {
			x := anyEvent(rnd, m, s.Model.Vocab)
			if x.Kind == script.Submit {
				x.Prompt, x.Most = anyPrompt(rnd, s.Model.Vocab, 60), 1+rnd.Intn(60)
			}
			l = append(l, x)
		}
		x := played(t, s, append(l, of(script.Calm, 100), of(script.Calm, 100))...)
		isJudged(t, seed, s, x)
		for _, y := range x.Ended {
			if y.End == router.Completed && len(y.Tokens) > 10 {
				completed++
			}
		}
	}
	if completed < 100 {
		t.Errorf("%d long answers: too few to tell", completed)
	}
}

// ahead is what a trace has of the events ahead of one, and how many were open then.
func ahead(x script.Trace, event int) script.Trace {
	y := script.Trace{Errors: x.Errors[:event]}
	for _, a := range x.Asked {
		if a.Event < event {
			y.Asked = append(y.Asked, a)
		}
	}
	for _, b := range x.Ended {
		if b.Event < event {
			y.Ended = append(y.Ended, b)
		}
	}
	y.Open = len(y.Asked) - len(y.Ended)
	return y
}

// P26.4: the same script has the same trace; the trace of a beginning is the beginning of the trace, but for Open.
func TestBeginnings(t *testing.T) {
	ended := 0
	for seed := range int64(240) {
		rnd := rand.New(rand.NewSource(seed))
		s := anySetup(rnd)
		events := anyScript(rnd, s.Model.Vocab, 100)
		x := played(t, s, events...)
		for event := range len(events) + 1 {
			if seed%10 != 0 && event != len(events) && rnd.Intn(8) != 0 {
				continue
			}
			if y := played(t, s, events[:event]...); !same(y, ahead(x, event)) {
				t.Fatalf("seed %d: the first %d events: %s, of all %s", seed, event, text(y), text(x))
			}
		}
		ended += len(x.Ended)
	}
	if ended < 200 {
		t.Errorf("%d ended: too few to tell", ended)
	}
}

// P26.4: also where other scripts are played in between.
func TestAgain(t *testing.T) {
	rnd := rand.New(rand.NewSource(1))
	var setups []fleet.Setup
	var scripts [][]script.Event
	var traces []script.Trace
	for range 60 {
		s := anySetup(rnd)
		setups, scripts = append(setups, s), append(scripts, anyScript(rnd, s.Model.Vocab, 100))
		traces = append(traces, played(t, s, scripts[len(scripts)-1]...))
	}
	for _, i := range rnd.Perm(60) {
		if x := played(t, setups[i], scripts[i]...); !same(x, traces[i]) {
			t.Errorf("script %d: %s, ahead %s", i, text(x), text(traces[i]))
		}
	}
}

// calms are so many rounds, in Calms of at most 100.
func calms(rnd *rand.Rand, rounds int) []script.Event {
	var l []script.Event
	for rounds > 0 {
		n := min(100, rounds)
		if rnd.Intn(3) == 0 {
			n = 1 + rnd.Intn(n)
		}
		l, rounds = append(l, of(script.Calm, n)), rounds-n
	}
	return l
}

// P26.5: behind Tries times Wait rounds of Calm nothing is open.
func TestEnd(t *testing.T) {
	ended, late := 0, 0
	for seed := range int64(500) {
		rnd := rand.New(rand.NewSource(seed))
		s := anySetup(rnd)
		if rnd.Intn(10) == 0 {
			s.Door.Wait, s.Door.Tries = among(rnd, 99, 100, 101, 250), among(rnd, 1, 2)
		}
		l := anyScript(rnd, s.Model.Vocab, 150)
		n := len(l)
		x := played(t, s, append(l, calms(rnd, s.Door.Wait*s.Door.Tries)...)...)
		if x.Open != 0 || len(x.Asked) != len(x.Ended) {
			t.Fatalf("seed %d: %s", seed, text(x))
		}
		isJudged(t, seed, s, x)
		ended += len(x.Ended)
		if len(x.Ended) > 0 && slices.MaxFunc(x.Ended, func(a, b script.Ended) int { return a.Event - b.Event }).Event >= n {
			late++
		}
	}
	if ended < 1000 || late < 200 {
		t.Errorf("%d ended, %d scripts in the end: too few to tell", ended, late)
	}
}

// P26.5: of requests that nobody can answer, just as many rounds as that, and not one fewer.
func TestJustInTime(t *testing.T) {
	for _, wait := range []int{1, 2, 7, 50, 99, 100, 101, 333} {
		for _, tries := range []int{1, 2, 3, 16} {
			s := helpless(wait)
			s.Door.Tries = tries
			rnd := rand.New(rand.NewSource(int64(wait)))
			l := append([]script.Event{long(), long()}, calms(rnd, wait*tries-1)...)
			x := played(t, s, append(l, of(script.Calm, 1))...)
			if len(x.Ended) != 2 || x.Open != 0 || x.Ended[0].Event != len(l) || x.Ended[1].Event != len(l) {
				t.Errorf("Wait %d, Tries %d: %s", wait, tries, text(x))
			}
			if y := played(t, s, l...); y.Open != 2 {
				t.Errorf("Wait %d, Tries %d, a round fewer: %s", wait, tries, text(y))
			}
		}
	}
}
