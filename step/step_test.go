package step_test

import (
	"math"
	"slices"
	"testing"

	"tiller/api"
	"tiller/model"
	"tiller/pass"
	"tiller/step"
)

const least = -api.Most - 1

// config is a configuration, its parts in the order of their names in the chapter of layer 6.
func config(vocab, dim, heads, hidden, layers int) api.Config {
	return api.Config{Vocab: vocab, Dim: dim, Heads: heads, Hidden: hidden, Layers: layers}
}

// sound are configurations that have no error.
func sound() []api.Config {
	return []api.Config{
		config(2, 1, 1, 1, 1), config(3, 2, 1, 5, 1), config(5, 4, 2, 6, 2), config(5, 6, 3, 4, 2), config(7, 4, 4, 3, 3), config(9, 9, 3, 9, 4),
		config(64, 1, 1, 64, 1), config(2, 32, 4, 1, 4), config(33, 30, 3, 63, 2), config(64, 31, 1, 5, 1), config(64, 32, 4, 64, 4),
	}
}

// made is a model that Make makes without an error.
func made(t *testing.T, c api.Config, seed uint64) model.Weights {
	t.Helper()
	w, e := model.Make(c, seed)
	if e != api.OK {
		t.Fatalf("Make(%v, %d): %d", c, seed, e)
	}
	return w
}

// lists are all of a model's rows and matrices' data, to be changed.
func lists(w *model.Weights) []*[]api.Num {
	l := []*[]api.Num{&w.Embed.Data, &w.Last, &w.Out.Data}
	for i := range w.Blocks {
		b := &w.Blocks[i]
		l = append(l, &b.First, &b.Q.Data, &b.K.Data, &b.V.Data, &b.O.Data, &b.Second, &b.Up.Data, &b.Down.Data)
	}
	return l
}

// steep is a model whose numbers are of all sizes, the least and the greatest one among them.
func steep(t *testing.T, c api.Config, seed uint64) model.Weights {
	t.Helper()
	w := made(t, c, seed)
	x := uint32(seed)*2654435761 + 12345
	for _, l := range lists(&w) {
		for i := range *l {
			x = x*1664525 + 1013904223
			n := api.Num(int32(x) >> ((x >> 8) % 28))
			if x>>28 == 0 {
				n = []api.Num{least, api.Most, -api.Most, 0}[x>>26%4]
			}
			(*l)[i] = n
		}
	}
	return w
}

// prompt is a row of n tokens, the same one each time.
func prompt(c api.Config, n, seed int) []int {
	l := make([]int, n)
	x := uint32(seed)*2654435761 + 4711
	for i := range l {
		x = x*1664525 + 1013904223
		l[i] = int(x>>8) % c.Vocab
	}
	return l
}

// someLists are lists of rows of numbers of all sizes.
func someLists(layers, rows, dim int, seed uint32) [][][]api.Num {
	x := seed*2654435761 + 99
	l := make([][][]api.Num, layers)
	for i := range l {
		l[i] = make([][]api.Num, rows)
		for j := range l[i] {
			l[i][j] = make([]api.Num, dim)
			for k := range l[i][j] {
				x = x*1664525 + 1013904223
				l[i][j][k] = api.Num(int32(x) >> ((x >> 8) % 28))
			}
		}
	}
	return l
}

// some is a view of n tokens that has the form of a configuration, with numbers of all sizes that no model made.
func some(c api.Config, n int, seed uint32) step.View {
	return step.View{Tokens: prompt(c, n, int(seed)), Cache: pass.Cache{Keys: someLists(c.Layers, n, c.Dim, seed), Vals: someLists(c.Layers, n, c.Dim, seed+1)}}
}

// clone is a view in its own memory, list by list.
func clone(v step.View) step.View {
	deep := func(l [][][]api.Num) [][][]api.Num {
		var x [][][]api.Num
		for _, rows := range l {
			var y [][]api.Num
			for _, row := range rows {
				y = append(y, slices.Clone(row))
			}
			x = append(x, y)
		}
		return x
	}
	return step.View{Tokens: slices.Clone(v.Tokens), Cache: pass.Cache{Keys: deep(v.Cache.Keys), Vals: deep(v.Cache.Vals)}}
}

// alike tells whether rows are the same, number by number.
func alike(a, b [][]api.Num) bool {
	return slices.EqualFunc(a, b, slices.Equal[[]api.Num])
}

// equalCache tells whether two Caches are the same, number by number.
func equalCache(a, b pass.Cache) bool {
	return slices.EqualFunc(a.Keys, b.Keys, alike) && slices.EqualFunc(a.Vals, b.Vals, alike)
}

// equal tells whether two views are the same, number by number.
func equal(a, b step.View) bool {
	return slices.Equal(a.Tokens, b.Tokens) && equalCache(a.Cache, b.Cache)
}

// nothing tells whether a view is the zero one.
func nothing(v step.View) bool {
	return len(v.Tokens) == 0 && len(v.Cache.Keys) == 0 && len(v.Cache.Vals) == 0
}

// fed is what Feed answers without an error.
func fed(t *testing.T, c api.Config, w model.Weights, v step.View, token int) (step.View, []api.Num) {
	t.Helper()
	next, likes, e := step.Feed(c, w, v, token)
	if e != api.OK {
		t.Fatalf("Feed(%v, .., %d tokens, %d): %d", c, len(v.Tokens), token, e)
	}
	return next, likes
}

// all is what All answers without an error.
func all(t *testing.T, c api.Config, w model.Weights, v step.View, tokens []int) (step.View, []api.Num) {
	t.Helper()
	next, likes, e := step.All(c, w, v, tokens)
	if e != api.OK {
		t.Fatalf("All(%v, .., %d tokens, %d tokens): %d", c, len(v.Tokens), len(tokens), e)
	}
	return next, likes
}

// checkFull holds a view, and what is liked behind it, against the pass from the beginning.
func checkFull(t *testing.T, c api.Config, w model.Weights, tokens []int, v step.View, likes []api.Num) {
	t.Helper()
	want, cache, e := pass.Full(c, w, tokens)
	if e != api.OK {
		t.Fatalf("Full(%v, .., %v): %d", c, tokens, e)
	}
	if !slices.Equal(v.Tokens, tokens) {
		t.Errorf("%v: the tokens are %v, not %v", c, v.Tokens, tokens)
	}
	if !slices.Equal(likes, want) {
		t.Errorf("%v: behind %v: %v, not %v", c, tokens, likes, want)
	}
	if !equalCache(v.Cache, cache) {
		t.Errorf("%v: behind %v another Cache than Full's", c, tokens)
	}
	if !step.Fits(c, v) {
		t.Errorf("%v: the view of %v hasn't the form", c, tokens)
	}
}

// P9.1: Feed from the zero View on, token by token, held against the passes from the beginning.
func TestFeed(t *testing.T) {
	for i, c := range sound() {
		for seed := range uint64(2) {
			for _, w := range []model.Weights{made(t, c, seed*1000+uint64(i)), steep(t, c, seed*1000+uint64(i))} {
				tokens := prompt(c, 10, i+int(seed))
				var v step.View
				var likes []api.Num
				for n, token := range tokens {
					v, likes = fed(t, c, w, v, token)
					checkFull(t, c, w, tokens[:n+1], v, likes)
				}
			}
		}
	}
}

// P9.1: All from the zero View on: one token, several, and as many as there may be.
func TestAll(t *testing.T) {
	for i, c := range sound() {
		for seed := range uint64(3) {
			for _, w := range []model.Weights{made(t, c, seed*1000+uint64(i)), steep(t, c, seed*1000+uint64(i))} {
				for _, n := range []int{1, 2, 3, 7, 20} {
					tokens := prompt(c, n, n+int(seed))
					v, likes := all(t, c, w, step.View{}, tokens)
					checkFull(t, c, w, tokens, v, likes)
				}
			}
		}
		for _, tokens := range [][]int{prompt(c, api.MaxTokens-1, 1), prompt(c, api.MaxTokens, 2), make([]int, api.MaxTokens), slices.Repeat([]int{c.Vocab - 1}, 9)} {
			w := made(t, c, math.MaxUint64)
			v, likes := all(t, c, w, step.View{}, tokens)
			checkFull(t, c, w, tokens, v, likes)
		}
	}
	for seed := range uint64(50) {
		c := config(5, 4, 2, 6, 2)
		w, tokens := made(t, c, seed), prompt(c, 5, int(seed))
		v, likes := all(t, c, w, step.View{}, tokens)
		checkFull(t, c, w, tokens, v, likes)
	}
}

// P9.1: Feed up to the last token that there is room for, each view held against the pass from the beginning.
func TestFeedToTheEnd(t *testing.T) {
	c := config(6, 4, 2, 5, 2)
	w, tokens := made(t, c, 31), prompt(c, api.MaxTokens, 8)
	var v step.View
	var likes []api.Num
	for n, token := range tokens {
		v, likes = fed(t, c, w, v, token)
		checkFull(t, c, w, tokens[:n+1], v, likes)
	}
	for token := -1; token <= c.Vocab; token++ {
		if next, likes, e := step.Feed(c, w, v, token); e != api.ErrBig || !nothing(next) || len(likes) != 0 {
			t.Errorf("Feed of %d behind MaxTokens: %v, %v, %d", token, next, likes, e)
		}
	}
}

// P9.1: Feed of each token of a vocabulary.
func TestFeedOfEachToken(t *testing.T) {
	c := config(64, 6, 2, 7, 2)
	w := made(t, c, 3)
	ahead, _ := all(t, c, w, step.View{}, []int{63, 0, 5})
	for token := range c.Vocab {
		v, likes := fed(t, c, w, step.View{}, token)
		checkFull(t, c, w, []int{token}, v, likes)
		v, likes = fed(t, c, w, ahead, token)
		checkFull(t, c, w, []int{63, 0, 5, token}, v, likes)
	}
}

// P9.1: numbers that were reckoned apart from this program.
func TestAllByNumbers(t *testing.T) {
	for _, x := range []struct {
		c              api.Config
		seed           uint64
		tokens         []int
		likes          []api.Num
		lastKey, lastV []api.Num
	}{
		{config(2, 1, 1, 1, 1), 0, []int{0, 1, 1}, []api.Num{32442, 2976}, []api.Num{39377}, []api.Num{17273}},
		{config(5, 4, 2, 6, 2), 7, []int{1, 4, 2}, []api.Num{22086, -59801, 91827, 4305, -62661}, []api.Num{69291, -30704, -57966, 122718}, []api.Num{-57477, -98122, 5110, 24134}},
		{config(4, 4, 4, 3, 3), math.MaxUint64, []int{3, 2, 1, 0, 1, 2, 3}, []api.Num{53011, -71993, -72052, 16075}, []api.Num{-65624, 17024, -7903, -107646}, []api.Num{97784, -89485, 54739, -15332}},
		{config(3, 8, 1, 16, 4), 99, []int{2, 2, 2, 2}, []api.Num{-155567, 21921, 25882}, []api.Num{2468, 8015, -71893, 47226, 57297, 3140, -88207, 75506}, []api.Num{82069, 52722, 67542, 42571, -150106, 113048, 92199, 6065}},
	} {
		v, likes := all(t, x.c, made(t, x.c, x.seed), step.View{}, x.tokens)
		if !slices.Equal(likes, x.likes) {
			t.Errorf("All(%v, %d, %v): %v, not %v", x.c, x.seed, x.tokens, likes, x.likes)
		}
		i, at := x.c.Layers-1, len(x.tokens)-1
		if !slices.Equal(v.Cache.Keys[i][at], x.lastKey) || !slices.Equal(v.Cache.Vals[i][at], x.lastV) {
			t.Errorf("All(%v, %d, %v): the last key and val are %v, %v", x.c, x.seed, x.tokens, v.Cache.Keys[i][at], v.Cache.Vals[i][at])
		}
	}
}

// P9.1: All in two parts, at each place, is All at once; so is Feed behind All.
func TestAllInParts(t *testing.T) {
	for i, c := range sound() {
		w, tokens := made(t, c, uint64(i)), prompt(c, 8, i)
		whole, want := all(t, c, w, step.View{}, tokens)
		for n := 1; n < len(tokens); n++ {
			first, _ := all(t, c, w, step.View{}, tokens[:n])
			v, likes := all(t, c, w, first, tokens[n:])
			if !equal(v, whole) || !slices.Equal(likes, want) {
				t.Errorf("%v: parted at %d: another view", c, n)
			}
		}
		first, _ := all(t, c, w, step.View{}, tokens[:7])
		if v, likes := fed(t, c, w, first, tokens[7]); !equal(v, whole) || !slices.Equal(likes, want) {
			t.Errorf("%v: Feed behind All: another view", c)
		}
	}
	c := config(6, 4, 2, 5, 2)
	w, tokens := made(t, c, 5), prompt(c, api.MaxTokens, 3)
	whole, want := all(t, c, w, step.View{}, tokens)
	for _, n := range []int{1, 64, 127} {
		first, _ := all(t, c, w, step.View{}, tokens[:n])
		if v, likes := all(t, c, w, first, tokens[n:]); !equal(v, whole) || !slices.Equal(likes, want) {
			t.Errorf("MaxTokens, parted at %d: another view", n)
		}
	}
}

// byHand is what the chapter makes of one token more, step by step.
func byHand(c api.Config, w model.Weights, v step.View, token int) (step.View, []api.Num) {
	next := clone(v)
	if len(v.Tokens) == 0 {
		next.Cache = pass.Cache{Keys: make([][][]api.Num, c.Layers), Vals: make([][][]api.Num, c.Layers)}
	}
	row := pass.Begin(w, token, len(v.Tokens))
	for i, b := range w.Blocks {
		var key, val []api.Num
		var keys, vals [][]api.Num
		if len(v.Tokens) > 0 {
			keys, vals = v.Cache.Keys[i], v.Cache.Vals[i]
		}
		row, key, val = pass.One(c, b, row, keys, vals)
		next.Cache.Keys[i], next.Cache.Vals[i] = append(next.Cache.Keys[i], key), append(next.Cache.Vals[i], val)
	}
	next.Tokens = append(next.Tokens, token)
	return next, pass.Likes(w, row)
}

// P9.1: Feed and All of views that no model made go by the chapter's steps.
func TestFeedOfAnyView(t *testing.T) {
	for i, c := range sound() {
		for _, w := range []model.Weights{made(t, c, uint64(i)), steep(t, c, uint64(i))} {
			for _, n := range []int{0, 1, 2, 5, 127} {
				v := some(c, n, uint32(i+n))
				if n == 0 {
					v = step.View{}
				}
				want, wantLikes := byHand(c, w, v, c.Vocab-1)
				if next, likes := fed(t, c, w, v, c.Vocab-1); !equal(next, want) || !slices.Equal(likes, wantLikes) {
					t.Errorf("%v: Feed behind %d tokens: another view", c, n)
				}
				if next, likes := all(t, c, w, v, []int{c.Vocab - 1}); !equal(next, want) || !slices.Equal(likes, wantLikes) {
					t.Errorf("%v: All of one behind %d tokens: another view", c, n)
				}
			}
			v := some(c, 4, 9)
			want, _ := byHand(c, w, v, 1)
			want, _ = byHand(c, w, want, 0)
			want, wantLikes := byHand(c, w, want, 1)
			if next, likes := all(t, c, w, v, []int{1, 0, 1}); !equal(next, want) || !slices.Equal(likes, wantLikes) {
				t.Errorf("%v: All of three: another view", c)
			}
		}
	}
}

// changed is a view with one change.
func changed(v step.View, change func(*step.View)) step.View {
	x := clone(v)
	change(&x)
	return x
}

// P9.1: Feed's errors in their order, with nothing beside them.
func TestFeedErrors(t *testing.T) {
	c := config(5, 4, 2, 3, 2)
	w := made(t, c, 1)
	worse := model.Copy(w)
	worse.Blocks[1].Down.Cols = 9
	v, _ := all(t, c, w, step.View{}, []int{1, 4, 0})
	nearly, full, more := some(c, 127, 1), some(c, 128, 1), some(c, 129, 1)
	short := changed(v, func(x *step.View) { x.Cache.Vals = x.Cache.Vals[:1] })
	shortFull := changed(full, func(x *step.View) { x.Cache.Keys[1][127] = nil })
	fullToken := changed(full, func(x *step.View) { x.Tokens[5] = 5 })
	for i, x := range []struct {
		c     api.Config
		w     model.Weights
		v     step.View
		token int
		want  api.Errno
	}{
		{c, w, step.View{}, 0, api.OK}, {c, w, step.View{}, 4, api.OK}, {c, w, v, 0, api.OK}, {c, w, v, 4, api.OK}, {c, w, nearly, 0, api.OK}, {config(5, 4, 4, 3, 2), w, v, 1, api.OK},
		{c, w, step.View{}, -1, api.ErrToken}, {c, w, step.View{}, 5, api.ErrToken}, {c, w, v, -1, api.ErrToken}, {c, w, v, 5, api.ErrToken}, {c, w, v, math.MinInt, api.ErrToken}, {c, w, v, math.MaxInt, api.ErrToken}, {c, w, nearly, 5, api.ErrToken}, {config(5, 4, 4, 3, 2), w, v, 5, api.ErrToken},
		// Room comes ahead of the token.
		{c, w, full, 0, api.ErrBig}, {c, w, full, 5, api.ErrBig}, {c, w, full, -1, api.ErrBig},
		// The form comes ahead of room and of the token.
		{c, w, short, 0, api.ErrForm}, {c, w, short, 5, api.ErrForm}, {c, w, shortFull, 0, api.ErrForm}, {c, w, shortFull, -1, api.ErrForm}, {c, w, fullToken, 0, api.ErrForm}, {c, w, fullToken, 5, api.ErrForm}, {c, w, more, 0, api.ErrForm}, {c, w, more, 9, api.ErrForm}, {c, w, some(config(5, 4, 2, 3, 1), 3, 1), 1, api.ErrForm}, {c, w, some(config(5, 3, 1, 3, 2), 3, 1), 1, api.ErrForm}, {c, w, some(c, 0, 1), 1, api.ErrForm}, {c, w, step.View{Tokens: []int{1}}, 1, api.ErrForm},
		// The model comes ahead of the form, of room and of the token.
		{c, model.Weights{}, step.View{}, 0, api.ErrForm}, {c, worse, v, 5, api.ErrForm}, {c, worse, full, 5, api.ErrForm}, {c, worse, full, 0, api.ErrForm}, {config(5, 4, 3, 3, 2), w, full, 1, api.ErrForm}, {config(6, 4, 2, 3, 2), w, v, 6, api.ErrForm},
		{config(1, 4, 2, 3, 2), w, v, 0, api.ErrArg}, {config(5, 4, 0, 3, 2), w, short, 5, api.ErrArg}, {config(5, 4, 2, 0, 2), w, full, 5, api.ErrArg}, {config(5, 0, 2, 3, 2), w, step.View{}, 1, api.ErrArg}, {config(5, 4, 2, 3, -1), w, more, -1, api.ErrArg}, {api.Config{}, model.Weights{}, step.View{}, 0, api.ErrArg},
		{config(65, 4, 2, 3, 2), w, v, 65, api.ErrBig}, {config(5, 33, 3, 3, 2), w, short, 9, api.ErrBig}, {config(5, 4, 5, 3, 2), w, step.View{}, 1, api.ErrBig}, {config(5, 4, 2, 65, 2), w, short, 1, api.ErrBig}, {config(5, 4, 2, 3, 5), w, shortFull, 1, api.ErrBig},
	} {
		next, likes, e := step.Feed(x.c, x.w, x.v, x.token)
		if e != x.want {
			t.Errorf("%d: Feed(%v, .., %d tokens, %d): %d, not %d", i, x.c, len(x.v.Tokens), x.token, e, x.want)
		}
		if e != api.OK && (!nothing(next) || len(likes) != 0) {
			t.Errorf("%d: beside the error %d: %v, %v", i, e, next, likes)
		}
		if e == api.OK && (len(next.Tokens) != len(x.v.Tokens)+1 || len(likes) != x.c.Vocab) {
			t.Errorf("%d: %v, %v", i, next, likes)
		}
	}
}

// P9.1: All's errors in their order, with nothing beside them.
func TestAllErrors(t *testing.T) {
	c := config(5, 4, 2, 3, 2)
	w := made(t, c, 1)
	v, _ := all(t, c, w, step.View{}, []int{1, 4, 0})
	early, nearly, full := some(c, 126, 1), some(c, 127, 1), some(c, 128, 1)
	short := changed(v, func(x *step.View) { x.Cache.Vals[1] = x.Cache.Vals[1][:2] })
	shortFull := changed(full, func(x *step.View) { x.Cache.Keys = nil })
	most := slices.Repeat([]int{1}, api.MaxTokens)
	long := slices.Repeat([]int{1}, api.MaxTokens+1)
	for i, x := range []struct {
		c      api.Config
		w      model.Weights
		v      step.View
		tokens []int
		want   api.Errno
	}{
		{c, w, step.View{}, []int{1}, api.OK}, {c, w, step.View{}, most, api.OK}, {c, w, v, most[3:], api.OK}, {c, w, early, []int{0, 4}, api.OK}, {c, w, nearly, []int{4}, api.OK}, {config(5, 4, 4, 3, 2), w, v, []int{1}, api.OK},
		// The tokens come first, whatever else there is.
		{c, w, step.View{}, nil, api.ErrNone}, {c, w, v, []int{}, api.ErrNone}, {c, w, short, nil, api.ErrNone}, {c, w, full, nil, api.ErrNone}, {c, model.Weights{}, v, nil, api.ErrNone}, {config(1, 4, 2, 3, 2), w, v, nil, api.ErrNone}, {config(65, 4, 2, 3, 2), w, full, nil, api.ErrNone}, {api.Config{}, model.Weights{}, step.View{}, nil, api.ErrNone},
		{c, w, step.View{}, long, api.ErrBig}, {c, w, short, long, api.ErrBig}, {c, model.Weights{}, v, long, api.ErrBig}, {config(1, 4, 2, 3, 2), w, v, long, api.ErrBig}, {c, w, v, append(slices.Clone(long), 5), api.ErrBig},
		{c, w, step.View{}, []int{5}, api.ErrToken}, {c, w, step.View{}, []int{-1}, api.ErrToken}, {c, w, v, []int{0, 4, 5}, api.ErrToken}, {c, w, v, []int{5, 0}, api.ErrToken}, {c, w, short, []int{0, -1}, api.ErrToken}, {c, w, nearly, []int{0, 0, 5}, api.ErrToken}, {c, w, full, []int{5}, api.ErrToken}, {c, model.Weights{}, v, []int{5}, api.ErrToken}, {config(5, 4, 3, 3, 2), w, v, []int{5}, api.ErrToken}, {config(5, 4, 0, 3, 2), w, v, []int{math.MaxInt}, api.ErrToken}, {config(65, 4, 2, 3, 2), w, v, []int{65}, api.ErrToken}, {api.Config{}, model.Weights{}, step.View{}, []int{0}, api.ErrToken},
		// Then those of Feed: the model, the form, the room.
		{config(1, 4, 2, 3, 2), w, v, []int{0}, api.ErrArg}, {config(5, 4, 2, 0, 2), w, short, most, api.ErrArg}, {config(5, 4, 2, 3, -1), w, full, []int{4}, api.ErrArg},
		{config(65, 4, 2, 3, 2), w, short, []int{64}, api.ErrBig}, {config(5, 33, 3, 3, 2), w, v, []int{1}, api.ErrBig}, {config(5, 4, 2, 3, 5), w, shortFull, []int{1}, api.ErrBig},
		{config(5, 4, 3, 3, 2), w, full, []int{1}, api.ErrForm}, {c, model.Weights{}, full, []int{1, 2}, api.ErrForm}, {c, model.Weights{}, step.View{}, []int{1}, api.ErrForm},
		{c, w, short, []int{1}, api.ErrForm}, {c, w, shortFull, []int{1}, api.ErrForm}, {c, w, some(c, 129, 1), []int{1}, api.ErrForm}, {c, w, step.View{Tokens: []int{5}}, []int{1}, api.ErrForm},
		{c, w, full, []int{1}, api.ErrBig}, {c, w, nearly, []int{1, 1}, api.ErrBig}, {c, w, early, []int{0, 1, 2}, api.ErrBig}, {c, w, v, most[2:], api.ErrBig}, {c, w, v, most, api.ErrBig},
	} {
		next, likes, e := step.All(x.c, x.w, x.v, x.tokens)
		if e != x.want {
			t.Errorf("%d: All(%v, .., %d tokens, %d tokens): %d, not %d", i, x.c, len(x.v.Tokens), len(x.tokens), e, x.want)
		}
		if e != api.OK && (!nothing(next) || len(likes) != 0) {
			t.Errorf("%d: beside the error %d: %v, %v", i, e, next, likes)
		}
		if e == api.OK && (len(next.Tokens) != len(x.v.Tokens)+len(x.tokens) || len(likes) != x.c.Vocab) {
			t.Errorf("%d: %v, %v", i, next, likes)
		}
	}
}
