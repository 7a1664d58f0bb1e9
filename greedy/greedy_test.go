package greedy_test

import (
	"math"
	"slices"
	"testing"

	"tiller/api"
	"tiller/greedy"
	"tiller/model"
	"tiller/pass"
	"tiller/vec"
)

const least = -api.Most - 1

// config is a configuration, its parts in the order of their names in the chapter of layer 6.
func config(vocab, dim, heads, hidden, layers int) api.Config {
	return api.Config{Vocab: vocab, Dim: dim, Heads: heads, Hidden: hidden, Layers: layers}
}

// sound are configurations that have no error.
func sound() []api.Config {
	return []api.Config{
		config(2, 1, 1, 1, 1), config(3, 2, 1, 5, 1), config(5, 4, 2, 6, 2), config(5, 6, 3, 4, 2), config(7, 4, 4, 3, 3), config(9, 9, 3, 9, 4),
		config(64, 1, 1, 64, 1), config(2, 32, 4, 1, 4), config(33, 30, 3, 63, 2), config(64, 31, 1, 5, 1), config(64, 32, 4, 64, 4),
	}
}

// made is a model that Make makes without an error.
func made(t *testing.T, c api.Config, seed uint64) model.Weights {
	t.Helper()
	w, e := model.Make(c, seed)
	if e != api.OK {
		t.Fatalf("Make(%v, %d): %d", c, seed, e)
	}
	return w
}

// lists are all of a model's rows and matrices' data, to be changed.
func lists(w *model.Weights) []*[]api.Num {
	l := []*[]api.Num{&w.Embed.Data, &w.Last, &w.Out.Data}
	for i := range w.Blocks {
		b := &w.Blocks[i]
		l = append(l, &b.First, &b.Q.Data, &b.K.Data, &b.V.Data, &b.O.Data, &b.Second, &b.Up.Data, &b.Down.Data)
	}
	return l
}

// steep is a model whose numbers are of all sizes, the least and the greatest one among them.
func steep(t *testing.T, c api.Config, seed uint64) model.Weights {
	t.Helper()
	w := made(t, c, seed)
	x := uint32(seed)*2654435761 + 12345
	for _, l := range lists(&w) {
		for i := range *l {
			x = x*1664525 + 1013904223
			n := api.Num(int32(x) >> ((x >> 8) % 28))
			if x>>28 == 0 {
				n = []api.Num{least, api.Most, -api.Most, 0}[x>>26%4]
			}
			(*l)[i] = n
		}
	}
	return w
}

// prompt is a row of n tokens, the same one each time.
func prompt(c api.Config, n, seed int) []int {
	l := make([]int, n)
	x := uint32(seed)*2654435761 + 4711
	for i := range l {
		x = x*1664525 + 1013904223
		l[i] = int(x>>8) % c.Vocab
	}
	return l
}

// ran is what Run answers without an error.
func ran(t *testing.T, c api.Config, w model.Weights, tokens []int, most int) []int {
	t.Helper()
	answer, e := greedy.Run(c, w, tokens, most)
	if e != api.OK {
		t.Fatalf("Run(%v, .., %v, %d): %d", c, tokens, most, e)
	}
	return answer
}

// said is what the passes from the beginning say, token by token.
func said(t *testing.T, c api.Config, w model.Weights, tokens []int, most int) []int {
	t.Helper()
	var answer []int
	for range most {
		likes, _, e := pass.Full(c, w, append(slices.Clone(tokens), answer...))
		if e != api.OK {
			t.Fatalf("Full(%v, .., %v and %v): %d", c, tokens, answer, e)
		}
		token := vec.Argmax(likes)
		answer = append(answer, token)
		if token == 0 {
			break
		}
	}
	return answer
}

// P10.1: the errors of a request in their order.
func TestAsked(t *testing.T) {
	c := config(5, 4, 2, 3, 2)
	most := slices.Repeat([]int{1}, api.MaxTokens)
	long := slices.Repeat([]int{1}, api.MaxTokens+1)
	for i, x := range []struct {
		c      api.Config
		prompt []int
		most   int
		want   api.Errno
	}{
		{c, []int{1}, 1, api.OK}, {c, []int{0}, 1, api.OK}, {c, []int{4, 0, 4}, 17, api.OK}, {c, []int{1}, 127, api.OK}, {c, []int{1, 1}, 126, api.OK}, {c, most[64:], 64, api.OK}, {c, most[1:], 1, api.OK},
		// The tokens come first.
		{c, nil, 1, api.ErrNone}, {c, []int{}, 1, api.ErrNone}, {c, nil, 0, api.ErrNone}, {c, nil, -1, api.ErrNone}, {c, nil, 128, api.ErrNone}, {c, nil, 129, api.ErrNone}, {c, nil, math.MaxInt, api.ErrNone}, {c, nil, math.MinInt, api.ErrNone},
		{c, long, 1, api.ErrBig}, {c, long, 0, api.ErrBig}, {c, long, -1, api.ErrBig}, {c, long, math.MinInt, api.ErrBig}, {c, long, math.MaxInt, api.ErrBig}, {c, append(slices.Clone(long), 5), 0, api.ErrBig},
		{c, []int{5}, 1, api.ErrToken}, {c, []int{-1}, 1, api.ErrToken}, {c, []int{0, 4, 5}, 1, api.ErrToken}, {c, []int{5, 0}, 1, api.ErrToken}, {c, []int{math.MinInt}, 1, api.ErrToken}, {c, []int{math.MaxInt}, 1, api.ErrToken}, {c, []int{5}, 0, api.ErrToken}, {c, []int{-1}, -1, api.ErrToken}, {c, []int{5}, 128, api.ErrToken}, {c, []int{5}, math.MaxInt, api.ErrToken}, {c, append(slices.Clone(most[1:]), 5), 1, api.ErrToken}, {c, append(slices.Clone(most[1:]), 5), 0, api.ErrToken},
		// Then most, be there room or not.
		{c, []int{1}, 0, api.ErrArg}, {c, []int{1}, -1, api.ErrArg}, {c, []int{1}, math.MinInt, api.ErrArg}, {c, []int{1}, math.MinInt + 1, api.ErrArg}, {c, most, 0, api.ErrArg}, {c, most, -1, api.ErrArg}, {c, most, math.MinInt, api.ErrArg}, {c, most[1:], 0, api.ErrArg},
		// Then room.
		{c, []int{1}, 128, api.ErrBig}, {c, []int{1}, 129, api.ErrBig}, {c, []int{1}, 1 << 32, api.ErrBig}, {c, []int{1}, math.MaxInt, api.ErrBig}, {c, []int{1}, math.MaxInt - 1, api.ErrBig}, {c, []int{1, 1}, 127, api.ErrBig}, {c, most[64:], 65, api.ErrBig}, {c, most[1:], 2, api.ErrBig}, {c, most[1:], math.MaxInt, api.ErrBig}, {c, most, 1, api.ErrBig}, {c, most, math.MaxInt, api.ErrBig}, {c, most, math.MaxInt - 127, api.ErrBig},
		// The configuration's vocabulary is all that is looked at.
		{api.Config{}, nil, 1, api.ErrNone}, {api.Config{}, []int{0}, 1, api.ErrToken}, {api.Config{Vocab: 1}, []int{0}, 1, api.OK}, {api.Config{Vocab: 1}, []int{1}, 1, api.ErrToken}, {api.Config{Vocab: 1000}, []int{999}, 127, api.OK}, {api.Config{Vocab: 1000}, []int{999}, 128, api.ErrBig}, {api.Config{Vocab: -1}, []int{-1}, 1, api.ErrToken}, {config(5, 4, 3, 3, 2), []int{1}, 1, api.OK}, {config(5, 4, 3, 3, 2), []int{1}, 0, api.ErrArg}, {config(math.MaxInt, -1, -1, -1, -1), []int{math.MaxInt - 1}, 1, api.OK},
	} {
		if e := greedy.Asked(x.c, x.prompt, x.most); e != x.want {
			t.Errorf("%d: Asked(%v, %d tokens, %d): %d, not %d", i, x.c, len(x.prompt), x.most, e, x.want)
		}
	}
}

// P10.1: prompt and most at the bound, for each length of a prompt.
func TestAskedAtTheBound(t *testing.T) {
	c := config(5, 4, 2, 3, 2)
	for n := 1; n < api.MaxTokens; n++ {
		tokens := prompt(c, n, n)
		if e := greedy.Asked(c, tokens, api.MaxTokens-n); e != api.OK {
			t.Errorf("%d tokens and %d more: %d", n, api.MaxTokens-n, e)
		}
		if e := greedy.Asked(c, tokens, api.MaxTokens-n+1); e != api.ErrBig {
			t.Errorf("%d tokens and %d more: %d", n, api.MaxTokens-n+1, e)
		}
	}
}

// P10.1: answers of none, of fewer tokens, of just most and of more, with End at the end and elsewhere.
func TestOver(t *testing.T) {
	for i, x := range []struct {
		answer []int
		most   int
		want   bool
	}{
		{nil, 1, false}, {[]int{}, 1, false}, {nil, 128, false}, {nil, math.MaxInt, false}, {nil, 0, true}, {[]int{}, 0, true}, {nil, -1, true}, {nil, math.MinInt, true},
		{[]int{3}, 2, false}, {[]int{3}, 1, true}, {[]int{3}, 0, true}, {[]int{3}, -1, true}, {[]int{3}, math.MaxInt, false}, {[]int{3}, math.MinInt, true},
		{[]int{0}, 2, true}, {[]int{0}, 1, true}, {[]int{0}, 0, true}, {[]int{0}, math.MaxInt, true}, {[]int{0}, -1, true},
		{[]int{1, 2, 3}, 4, false}, {[]int{1, 2, 3}, 3, true}, {[]int{1, 2, 3}, 2, true}, {[]int{1, 2, 3}, 128, false},
		{[]int{1, 2, 0}, 4, true}, {[]int{1, 2, 0}, 3, true}, {[]int{1, 2, 0}, 2, true}, {[]int{1, 2, 0}, math.MaxInt, true},
		{[]int{0, 2, 3}, 4, false}, {[]int{1, 0, 3}, 4, false}, {[]int{0, 0, 3}, 5, false}, {[]int{1, 0, 3}, 3, true}, {[]int{0, 0, 0}, 9, true},
		{[]int{-1}, 2, false}, {[]int{1, -1}, 3, false}, {[]int{math.MinInt}, 2, false}, {[]int{1 << 32}, 2, false}, {[]int{256}, 2, false}, {[]int{math.MaxInt, 0}, 3, true},
		{slices.Repeat([]int{1}, 500), 501, false}, {slices.Repeat([]int{1}, 500), 500, true}, {slices.Repeat([]int{1}, 127), 127, true}, {slices.Repeat([]int{1}, 126), 127, false},
	} {
		if greedy.Over(x.answer, x.most) != x.want {
			t.Errorf("%d: Over(%v, %d) is not %t", i, x.answer, x.most, x.want)
		}
	}
	if greedy.End != 0 {
		t.Errorf("End is %d", greedy.End)
	}
}

// P10.1: the least place of the greatest number.
func TestNext(t *testing.T) {
	for i, x := range []struct {
		likes []api.Num
		want  int
	}{
		{nil, -1}, {[]api.Num{}, -1}, {[]api.Num{0}, 0}, {[]api.Num{least}, 0}, {[]api.Num{3, 7, 7}, 1}, {[]api.Num{7, 3, 7}, 0}, {[]api.Num{1, 2, 3}, 2}, {[]api.Num{-3, -2, -2}, 1}, {[]api.Num{0, 0, 0}, 0}, {[]api.Num{least, -api.Most}, 1}, {[]api.Num{api.Most - 1, api.Most}, 1}, {[]api.Num{least, least, api.Most, api.Most}, 2}, {[]api.Num{-1, 0}, 1},
	} {
		if n := greedy.Next(x.likes); n != x.want {
			t.Errorf("%d: Next(%v): %d, not %d", i, x.likes, n, x.want)
		}
	}
	long := make([]api.Num, 5000)
	long[4999] = 1
	if n := greedy.Next(long); n != 4999 || n != vec.Argmax(long) {
		t.Errorf("Next of 5000: %d", n)
	}
}

// P10.2: Run is what the passes from the beginning say.
func TestRun(t *testing.T) {
	ended, whole := 0, 0
	for i, c := range sound() {
		for seed := range uint64(4) {
			for _, w := range []model.Weights{made(t, c, seed*1000+uint64(i)), steep(t, c, seed*1000+uint64(i))} {
				for _, n := range []int{1, 2, 5} {
					tokens := prompt(c, n, n+int(seed))
					answer, want := ran(t, c, w, tokens, 9), said(t, c, w, tokens, 9)
					if !slices.Equal(answer, want) {
						t.Errorf("%v: Run(.., %v, 9): %v, not %v", c, tokens, answer, want)
					}
					if answer[len(answer)-1] == greedy.End {
						ended++
					} else {
						whole++
					}
				}
			}
		}
	}
	if ended == 0 || whole == 0 {
		t.Errorf("%d answers ended by themselves, %d didn't: not both kinds were seen", ended, whole)
	}
}

// P10.2: Run for each number of tokens, from one to as many as there is room for.
func TestRunForEachMost(t *testing.T) {
	c := config(5, 4, 2, 6, 2)
	w := made(t, c, 2)
	tokens := []int{1, 4, 0}
	want := said(t, c, w, tokens, 125)
	for most := 1; most <= 125; most++ {
		if answer := ran(t, c, w, tokens, most); !slices.Equal(answer, want[:min(most, len(want))]) {
			t.Errorf("Run for %d tokens: %v", most, answer)
		}
	}
	if answer, e := greedy.Run(c, w, tokens, 126); e != api.ErrBig || len(answer) != 0 {
		t.Errorf("one more: %v, %d", answer, e)
	}
}

// P10.2: prompt and answer are together MaxTokens, of prompts of one token, of many and of all but one.
func TestRunToTheEnd(t *testing.T) {
	whole := 0
	for i, c := range []api.Config{config(2, 1, 1, 1, 1), config(7, 4, 4, 3, 3), config(64, 32, 4, 64, 4)} {
		for seed := range uint64(3) {
			w := made(t, c, seed)
			for _, n := range []int{1, 64, 126, 127} {
				tokens := prompt(c, n, i)
				answer := ran(t, c, w, tokens, api.MaxTokens-n)
				if len(answer) == api.MaxTokens-n && n == 1 {
					whole++
				}
				checkAnswer(t, c, w, tokens, answer, api.MaxTokens-n)
			}
		}
	}
	if whole == 0 {
		t.Errorf("no answer of 127 tokens was seen")
	}
}

// checkAnswer holds some tokens of a long answer, its last ones among them, against passes from the beginning.
func checkAnswer(t *testing.T, c api.Config, w model.Weights, tokens, answer []int, most int) {
	t.Helper()
	if len(answer) < 1 || len(answer) > most || !greedy.Over(answer, most) {
		t.Fatalf("%v: Run(.., %d tokens, %d): %v", c, len(tokens), most, answer)
	}
	for at, token := range answer {
		if at%17 != 0 && at < len(answer)-2 {
			continue
		}
		likes, _, e := pass.Full(c, w, slices.Concat(tokens, answer[:at]))
		if e != api.OK || vec.Argmax(likes) != token {
			t.Errorf("%v: behind %d tokens: token %d is %d, not %d", c, len(tokens), at, token, vec.Argmax(likes))
		}
		if at < len(answer)-1 && token == greedy.End {
			t.Errorf("%v: behind %d tokens: End at %d of %d", c, len(tokens), at, len(answer))
		}
	}
}

// P10.2: answers that were reckoned apart from this program.
func TestRunByNumbers(t *testing.T) {
	for _, x := range []struct {
		c      api.Config
		seed   uint64
		prompt []int
		want   []int
	}{
		{config(2, 1, 1, 1, 1), 0, []int{1, 1, 0}, []int{0}},
		{config(2, 1, 1, 1, 1), 2, []int{1, 1, 0}, []int{1, 1, 1, 1, 1, 1, 1, 1, 1, 1, 1, 1}},
		{config(2, 1, 1, 1, 1), 3, []int{1, 1, 0}, []int{1, 0}},
		{config(5, 4, 2, 6, 2), 2, []int{1, 4, 0}, []int{3, 2, 3, 3, 3, 3, 3, 3, 2, 3, 3, 3}},
		{config(5, 4, 2, 6, 2), 5, []int{1, 4, 0}, []int{1, 2, 1, 2, 1, 2, 4, 4, 1, 2, 1, 2}},
		{config(7, 4, 4, 3, 3), 3, []int{1, 6, 0}, []int{1, 1, 5, 6, 6, 6, 6, 6, 6, 6, 1, 5}},
		{config(9, 9, 3, 9, 4), 5, []int{1, 8, 0}, []int{8, 1, 7, 4, 8, 4, 8, 4, 8, 4, 4, 4}},
		{config(33, 30, 3, 63, 2), 3, []int{1, 32, 0}, []int{31, 31, 31, 31, 31, 21, 3, 31, 3, 24, 31, 3}},
		{config(64, 32, 4, 64, 4), 3, []int{1, 63, 0}, []int{17, 61, 44, 45, 58, 25, 18, 9, 9, 26, 18, 32}},
		{config(64, 32, 4, 64, 4), 5, []int{1, 63, 0}, []int{49, 34, 0}},
		{config(64, 6, 2, 7, 2), 5, []int{1, 63, 0}, []int{10, 59, 61, 59, 61, 19, 23, 23, 22, 22, 22, 59}},
	} {
		if answer := ran(t, x.c, made(t, x.c, x.seed), x.prompt, 12); !slices.Equal(answer, x.want) {
			t.Errorf("Run(%v, %d, %v, 12): %v, not %v", x.c, x.seed, x.prompt, answer, x.want)
		}
	}
}

// P10.2: where all tokens are liked alike, the first one is said, which ends the answer.
func TestRunOfTies(t *testing.T) {
	for i, c := range sound() {
		w := made(t, c, uint64(i))
		w.Out.Data = make([]api.Num, len(w.Out.Data))
		if answer := ran(t, c, w, prompt(c, 3, i), 20); !slices.Equal(answer, []int{0}) {
			t.Errorf("%v: of ties: %v", c, answer)
		}
	}
}

// P10.2: End in the prompt, even at its end, ends nothing.
func TestRunBehindEnd(t *testing.T) {
	c := config(5, 4, 2, 6, 2)
	for seed := range uint64(12) {
		w := made(t, c, seed)
		for _, tokens := range [][]int{{0}, {0, 0, 0}, {3, 0}, {0, 3}} {
			if answer, want := ran(t, c, w, tokens, 6), said(t, c, w, tokens, 6); !slices.Equal(answer, want) {
				t.Errorf("seed %d: Run(.., %v, 6): %v, not %v", seed, tokens, answer, want)
			}
		}
	}
}

// P10.2: Run's errors in their order, with nothing beside them.
func TestRunErrors(t *testing.T) {
	c := config(5, 4, 2, 3, 2)
	w := made(t, c, 1)
	worse := model.Copy(w)
	worse.Blocks[0].Second = nil
	most := slices.Repeat([]int{1}, api.MaxTokens)
	long := slices.Repeat([]int{1}, api.MaxTokens+1)
	for i, x := range []struct {
		c      api.Config
		w      model.Weights
		prompt []int
		most   int
		want   api.Errno
	}{
		{c, w, []int{1}, 1, api.OK}, {c, w, []int{1}, 127, api.OK}, {c, w, most[1:], 1, api.OK}, {config(5, 4, 4, 3, 2), w, []int{4}, 3, api.OK},
		{c, w, nil, 1, api.ErrNone}, {c, w, []int{}, 0, api.ErrNone}, {c, w, nil, math.MaxInt, api.ErrNone}, {c, w, long, 1, api.ErrBig}, {c, w, long, 0, api.ErrBig}, {c, w, []int{5}, 1, api.ErrToken}, {c, w, []int{0, -1}, 0, api.ErrToken}, {c, w, []int{5}, math.MaxInt, api.ErrToken},
		{c, w, []int{1}, 0, api.ErrArg}, {c, w, []int{1}, -1, api.ErrArg}, {c, w, []int{1}, math.MinInt, api.ErrArg}, {c, w, most, 0, api.ErrArg},
		{c, w, []int{1}, 128, api.ErrBig}, {c, w, most, 1, api.ErrBig}, {c, w, most[1:], 2, api.ErrBig}, {c, w, []int{1}, math.MaxInt, api.ErrBig}, {c, w, most, math.MaxInt, api.ErrBig},
		// The model comes first.
		{config(1, 4, 2, 3, 2), w, nil, 1, api.ErrArg}, {config(5, 4, 0, 3, 2), w, []int{5}, 1, api.ErrArg}, {config(5, 0, 2, 3, 2), w, long, 0, api.ErrArg}, {config(5, 4, 2, -3, 2), w, most, 1, api.ErrArg}, {api.Config{}, model.Weights{}, nil, 0, api.ErrArg}, {api.Config{}, model.Weights{}, []int{0}, 1, api.ErrArg},
		{config(65, 4, 2, 3, 2), w, nil, 1, api.ErrBig}, {config(5, 33, 3, 3, 2), w, []int{9}, 1, api.ErrBig}, {config(5, 4, 5, 3, 2), w, []int{1}, 0, api.ErrBig}, {config(5, 4, 2, 3, 5), w, []int{1}, 1, api.ErrBig},
		{config(5, 4, 3, 3, 2), w, nil, 1, api.ErrForm}, {c, model.Weights{}, nil, 1, api.ErrForm}, {c, model.Weights{}, []int{5}, 1, api.ErrForm}, {c, worse, []int{1}, 0, api.ErrForm}, {c, worse, long, 1, api.ErrForm}, {c, worse, []int{1}, 128, api.ErrForm}, {c, worse, []int{1}, 1, api.ErrForm}, {config(6, 4, 2, 3, 2), w, []int{6}, 1, api.ErrForm}, {config(5, 4, 2, 3, 1), w, []int{1}, math.MaxInt, api.ErrForm},
	} {
		answer, e := greedy.Run(x.c, x.w, x.prompt, x.most)
		if e != x.want {
			t.Errorf("%d: Run(%v, .., %d tokens, %d): %d, not %d", i, x.c, len(x.prompt), x.most, e, x.want)
		}
		if e != api.OK && len(answer) != 0 {
			t.Errorf("%d: beside the error %d: %v", i, e, answer)
		}
		if e == api.OK && (len(answer) < 1 || len(answer) > x.most) {
			t.Errorf("%d: %v", i, answer)
		}
	}
}

// P10.3: an answer for fewer tokens is the beginning of one for more.
func TestFewerTokens(t *testing.T) {
	for i, c := range sound() {
		for seed := range uint64(3) {
			w, tokens := made(t, c, seed), prompt(c, 1+i%4, i)
			long := ran(t, c, w, tokens, 14)
			for most := 1; most < 14; most++ {
				if answer := ran(t, c, w, tokens, most); !slices.Equal(answer, long[:min(most, len(long))]) {
					t.Errorf("%v: for %d tokens %v, for 14 %v", c, most, answer, long)
				}
			}
		}
	}
}

// P10.3: going on behind a part of the answer comes to the rest.
func TestGoingOn(t *testing.T) {
	for i, c := range sound() {
		for seed := range uint64(3) {
			w, tokens := made(t, c, seed), prompt(c, 1+i%4, i)
			whole := ran(t, c, w, tokens, 14)
			for n := 1; n < len(whole); n++ {
				if rest := ran(t, c, w, slices.Concat(tokens, whole[:n]), 14-n); !slices.Equal(rest, whole[n:]) {
					t.Errorf("%v: behind %v and %v: %v, not %v", c, tokens, whole[:n], rest, whole[n:])
				}
			}
		}
	}
	c := config(7, 4, 4, 3, 3)
	w := made(t, c, 1)
	whole := ran(t, c, w, []int{1}, 127)
	if len(whole) != 127 {
		t.Fatalf("an answer of %d tokens", len(whole))
	}
	for _, n := range []int{1, 63, 125, 126} {
		if rest := ran(t, c, w, slices.Concat([]int{1}, whole[:n]), 127-n); !slices.Equal(rest, whole[n:]) {
			t.Errorf("behind %d tokens: %v, not %v", n, rest, whole[n:])
		}
	}
}

// P10.1, P10.2: nothing that is handed in is changed, nor the room behind it; answers are new memory.
func TestKeepsApart(t *testing.T) {
	for i, c := range sound() {
		wasW := made(t, c, uint64(i))
		w := model.Copy(wasW)
		was := prompt(c, 4, i)
		tokens := append(slices.Clone(was), slices.Repeat([]int{77}, 40)...)[:4]
		first, second := ran(t, c, w, tokens, 10), ran(t, c, w, tokens, 10)
		want := slices.Clone(first)
		room := first[:cap(first)]
		for k := range room {
			room[k] = 4711
		}
		if !slices.Equal(second, want) {
			t.Errorf("%v: answers share memory", c)
		}
		likes := []api.Num{3, 7, 7}
		greedy.Next(likes)
		greedy.Asked(c, tokens, 3)
		greedy.Over(tokens, 3)
		if !slices.Equal(tokens[:44], append(slices.Clone(was), slices.Repeat([]int{77}, 40)...)) || !slices.Equal(likes, []api.Num{3, 7, 7}) {
			t.Errorf("%v: what was handed in was changed", c)
		}
		if !slices.EqualFunc(lists(&w), lists(&wasW), func(a, b *[]api.Num) bool { return slices.Equal(*a, *b) }) {
			t.Errorf("%v: the model was changed", c)
		}
		if !slices.Equal(ran(t, c, w, tokens, 10), want) {
			t.Errorf("%v: not the same again", c)
		}
	}
}

// The chapter's examples.
func TestExamples(t *testing.T) {
	for i, c := range sound() {
		w := made(t, c, uint64(i))
		answer := ran(t, c, w, []int{1}, 1)
		if likes, _, _ := pass.Full(c, w, []int{1}); !slices.Equal(answer, []int{vec.Argmax(likes)}) {
			t.Errorf("%v: one token: %v", c, answer)
		}
		if e := greedy.Asked(c, nil, 1); e != api.ErrNone {
			t.Errorf("no tokens: %d", e)
		}
		if e := greedy.Asked(c, []int{1}, 0); e != api.ErrArg {
			t.Errorf("most 0: %d", e)
		}
		if e := greedy.Asked(c, make([]int, 128), 1); e != api.ErrBig {
			t.Errorf("128 tokens: %d", e)
		}
	}
}
