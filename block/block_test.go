package block_test

import (
	"math"
	"slices"
	"testing"

	"tiller/api"
	"tiller/block"
	"tiller/model"
	"tiller/pass"
	"tiller/step"
)

const least = -api.Most - 1

// config is a configuration, its parts in the order of their names in the chapter of layer 6.
func config(vocab, dim, heads, hidden, layers int) api.Config {
	return api.Config{Vocab: vocab, Dim: dim, Heads: heads, Hidden: hidden, Layers: layers}
}

// sound are configurations that have no error.
func sound() []api.Config {
	return []api.Config{
		config(2, 1, 1, 1, 1), config(3, 2, 1, 5, 1), config(5, 4, 2, 6, 2), config(5, 6, 3, 4, 2), config(7, 4, 4, 3, 3), config(9, 9, 3, 9, 4), config(64, 1, 1, 64, 1), config(2, 32, 4, 1, 4), config(64, 32, 4, 64, 4),
	}
}

// odd are configurations that aren't right themselves, with no less than no layers and numbers a row.
func odd() []api.Config {
	return []api.Config{
		config(1, 4, 2, 3, 2), config(65, 4, 2, 3, 2), config(256, 4, 2, 3, 2), config(1000, 4, 2, 3, 2), config(math.MaxInt, 4, 2, 3, 2), config(5, 0, 1, 3, 2), config(5, 33, 1, 3, 2), config(5, 70, 1, 3, 1), config(5, 4, 3, 3, 2), config(5, 4, 0, 3, 2), config(5, 4, -1, 3, 2), config(5, 4, 2, 0, 2), config(5, 4, 2, 65, 2), config(5, 4, 2, 3, 0), config(5, 4, 2, 3, 5), config(5, 2, 2, 3, 40), config(65, 33, 5, 65, 5), config(5, 0, 0, 0, 0),
	}
}

// prompt is a row of n tokens, the same one each time.
func prompt(c api.Config, n, seed int) []int {
	l := make([]int, n)
	x := uint32(seed)*2654435761 + 4711
	for i := range l {
		x = x*1664525 + 1013904223
		l[i] = int(x>>8) % c.Vocab
	}
	return l
}

// someLists are lists of rows of numbers of all sizes, the least and the greatest one among them.
func someLists(layers, rows, dim int, seed uint32) [][][]api.Num {
	x := seed*2654435761 + 99
	l := make([][][]api.Num, layers)
	for i := range l {
		l[i] = make([][]api.Num, rows)
		for j := range l[i] {
			l[i][j] = make([]api.Num, dim)
			for k := range l[i][j] {
				x = x*1664525 + 1013904223
				l[i][j][k] = api.Num(int32(x) >> ((x >> 8) % 28))
				if x>>28 == 0 {
					l[i][j][k] = []api.Num{least, api.Most, -1, 0}[x>>26%4]
				}
			}
		}
	}
	return l
}

// someCache is a Cache of so many rows, with numbers that no model made.
func someCache(c api.Config, rows int, seed uint32) pass.Cache {
	return pass.Cache{Keys: someLists(c.Layers, rows, c.Dim, seed), Vals: someLists(c.Layers, rows, c.Dim, seed+1000)}
}

// someView is a view of n tokens that has the form of a configuration.
func someView(c api.Config, n int, seed uint32) step.View {
	if n == 0 {
		return step.View{}
	}
	return step.View{Tokens: prompt(c, n, int(seed)), Cache: someCache(c, n, seed)}
}

// some is a block of n tokens from a place on that is right for a configuration, if there may be so many.
func some(c api.Config, n, from int, seed uint32) block.Block {
	return block.Block{Tokens: prompt(c, n, int(seed)), From: from, Cache: someCache(c, max(n-from, 0), seed)}
}

// told is what a model's view of n tokens is.
func told(t *testing.T, c api.Config, n int, seed uint64) step.View {
	t.Helper()
	w, e := model.Make(c, seed)
	if e != api.OK {
		t.Fatalf("Make(%v, %d): %d", c, seed, e)
	}
	v, _, e := step.All(c, w, step.View{}, prompt(c, n, int(seed)))
	if e != api.OK {
		t.Fatalf("All(%v, %d): %d", c, n, e)
	}
	return v
}

// deep are the same lists in their own memory.
func deep(l [][][]api.Num) [][][]api.Num {
	var x [][][]api.Num
	for _, rows := range l {
		var y [][]api.Num
		for _, row := range rows {
			y = append(y, slices.Clone(row))
		}
		x = append(x, y)
	}
	return x
}

// clone is the same block in its own memory.
func clone(b block.Block) block.Block {
	return block.Block{Tokens: slices.Clone(b.Tokens), From: b.From, Cache: pass.Cache{Keys: deep(b.Cache.Keys), Vals: deep(b.Cache.Vals)}}
}

// cloneView is the same view in its own memory.
func cloneView(v step.View) step.View {
	return step.View{Tokens: slices.Clone(v.Tokens), Cache: pass.Cache{Keys: deep(v.Cache.Keys), Vals: deep(v.Cache.Vals)}}
}

// changed is a block with a change, which the block itself hasn't.
func changed(b block.Block, change func(*block.Block)) block.Block {
	b = clone(b)
	change(&b)
	return b
}

// alike tells whether rows are the same, number by number.
func alike(a, b [][]api.Num) bool {
	return slices.EqualFunc(a, b, slices.Equal[[]api.Num])
}

// equalCache tells whether two Caches are the same, number by number.
func equalCache(a, b pass.Cache) bool {
	return slices.EqualFunc(a.Keys, b.Keys, alike) && slices.EqualFunc(a.Vals, b.Vals, alike)
}

// equal tells whether two blocks are the same, number by number.
func equal(a, b block.Block) bool {
	return slices.Equal(a.Tokens, b.Tokens) && a.From == b.From && equalCache(a.Cache, b.Cache)
}

// equalView tells whether two views are the same, number by number.
func equalView(a, b step.View) bool {
	return slices.Equal(a.Tokens, b.Tokens) && equalCache(a.Cache, b.Cache)
}

// sides are the two halves of a block's Cache, to be changed.
func sides(b *block.Block) []*[][][]api.Num {
	return []*[][][]api.Num{&b.Cache.Keys, &b.Cache.Vals}
}

// places are the first one, one in the middle, and the last one.
func places(n int) []int {
	return []int{0, n / 2, n - 1}
}

// check holds Check, and the error of each call that looks by it first, against what is wanted.
func check(t *testing.T, what string, c api.Config, b block.Block, want api.Errno) {
	t.Helper()
	if e := block.Check(c, b); e != want {
		t.Errorf("%s: Check(%v, %d tokens from %d): %d, not %d", what, c, len(b.Tokens), b.From, e, want)
	}
	s, e := block.Bytes(c, b)
	if e != want || (e == api.OK) == (s == "") {
		t.Errorf("%s: Bytes(%v, %d tokens from %d): %d bytes, %d, not %d", what, c, len(b.Tokens), b.From, len(s), e, want)
	}
	if want != api.OK {
		if v, e := block.Join(c, []block.Block{b}); e != want || !equalView(v, step.View{}) {
			t.Errorf("%s: Join(%v, %d tokens from %d): %d, not %d", what, c, len(b.Tokens), b.From, e, want)
		}
	}
}

// P11.1: blocks of all lengths that are right, and others.
func TestCheck(t *testing.T) {
	for i, c := range sound() {
		for _, n := range []int{0, 1, 2, 15, 16, 17, 33, 112, 113, 127, 128, 129, 130, 255, 256, 300} {
			for _, from := range []int{0, 1, n/2 + 1, n - 20, n - 18, n - 17, n - 16, n - 15, n - 2, n - 1, n, n + 1, n + 16, n + 20} {
				want := api.OK
				if from < 0 || n-from < 1 || n-from > 16 || n > 128 {
					want = api.ErrForm
				}
				check(t, "a block", c, some(c, n, from, uint32(i)), want)
			}
		}
	}
}

// P11.1: From below 0, beyond the Tokens, and as great as int holds.
func TestCheckOfFrom(t *testing.T) {
	for i, c := range sound() {
		for _, n := range []int{1, 3, 16} {
			b := some(c, n, 0, uint32(i))
			check(t, "From 0", c, b, api.OK)
			for _, from := range []int{math.MinInt, math.MinInt + 1, math.MinInt + n, math.MinInt32, -129, -17, -16, -2, -1, n, n + 1, 128, 255, 256, math.MaxInt32, 1 << 32, math.MaxInt - 1, math.MaxInt} {
				check(t, "another From", c, changed(b, func(x *block.Block) { x.From = from }), api.ErrForm)
				check(t, "another From, no rows", c, block.Block{Tokens: b.Tokens, From: from, Cache: someCache(c, 0, 0)}, api.ErrForm)
			}
		}
		for _, from := range []int{math.MinInt, -17, -1, 0, 1, 16, math.MaxInt} {
			check(t, "no tokens", c, block.Block{From: from, Cache: someCache(c, 0, 0)}, api.ErrForm)
			check(t, "no tokens, a row", c, block.Block{From: from, Cache: someCache(c, 1, 0)}, api.ErrForm)
			check(t, "nothing", c, block.Block{From: from}, api.ErrForm)
		}
	}
}

// P11.1: MaxPage tokens from From on and one more, MaxTokens in all and one more.
func TestCheckOfMost(t *testing.T) {
	for i, c := range sound() {
		for _, from := range []int{0, 1, 16, 100, 111, 112} {
			check(t, "MaxPage", c, some(c, from+api.MaxPage, from, uint32(i)), api.OK)
			check(t, "one more", c, some(c, from+api.MaxPage+1, from, uint32(i)), api.ErrForm)
			check(t, "one more, without its rows", c, changed(some(c, from+api.MaxPage, from, uint32(i)), func(x *block.Block) { x.Tokens = append(x.Tokens, 0) }), api.ErrForm)
		}
		for k := 1; k <= api.MaxPage; k++ {
			check(t, "MaxTokens", c, some(c, api.MaxTokens, api.MaxTokens-k, uint32(i)), api.OK)
			check(t, "one more", c, some(c, api.MaxTokens+1, api.MaxTokens+1-k, uint32(i)), api.ErrForm)
		}
	}
}

// P11.1: lists too few and too many.
func TestCheckOfLists(t *testing.T) {
	for i, c := range sound() {
		for _, b := range []block.Block{some(c, 1, 0, uint32(i)), some(c, 16, 0, uint32(i)), some(c, 128, 113, uint32(i))} {
			for side := range 2 {
				for _, at := range places(c.Layers) {
					check(t, "a list less", c, changed(b, func(x *block.Block) { s := sides(x)[side]; *s = slices.Delete(*s, at, at+1) }), api.ErrForm)
					check(t, "a list more", c, changed(b, func(x *block.Block) { s := sides(x)[side]; *s = slices.Insert(*s, at, (*s)[at]) }), api.ErrForm)
				}
				check(t, "an empty list more", c, changed(b, func(x *block.Block) { s := sides(x)[side]; *s = append(*s, nil) }), api.ErrForm)
				check(t, "no lists", c, changed(b, func(x *block.Block) { *sides(x)[side] = nil }), api.ErrForm)
			}
			check(t, "no Cache", c, block.Block{Tokens: b.Tokens, From: b.From}, api.ErrForm)
			check(t, "a list less on both sides", c, block.Block{Tokens: b.Tokens, From: b.From, Cache: pass.Cache{Keys: b.Cache.Keys[1:], Vals: b.Cache.Vals[1:]}}, api.ErrForm)
			check(t, "a list from one side on the other", c, block.Block{Tokens: b.Tokens, From: b.From, Cache: pass.Cache{Keys: b.Cache.Keys[1:], Vals: append(slices.Clone(b.Cache.Vals), b.Cache.Keys[0])}}, api.ErrForm)
		}
	}
}

// P11.1: rows too few and too many, and numbers of a row, at each place that is looked at.
func TestCheckOfRows(t *testing.T) {
	for i, c := range sound() {
		for _, b := range []block.Block{some(c, 1, 0, uint32(i)), some(c, 5, 2, uint32(i)), some(c, 16, 0, uint32(i)), some(c, 128, 113, uint32(i))} {
			for side := range 2 {
				for _, at := range places(c.Layers) {
					list := func(x *block.Block) *[][]api.Num { return &(*sides(x)[side])[at] }
					check(t, "no rows", c, changed(b, func(x *block.Block) { *list(x) = nil }), api.ErrForm)
					check(t, "a row for each token", c, changed(b, func(x *block.Block) { *list(x) = someLists(1, len(x.Tokens), c.Dim, 1)[0] }), map[bool]api.Errno{true: api.OK, false: api.ErrForm}[b.From == 0])
					for _, k := range places(len(b.Tokens) - b.From) {
						check(t, "a row less", c, changed(b, func(x *block.Block) { l := list(x); *l = slices.Delete(*l, k, k+1) }), api.ErrForm)
						check(t, "a row more", c, changed(b, func(x *block.Block) { l := list(x); *l = slices.Insert(*l, k, (*l)[k]) }), api.ErrForm)
						check(t, "no numbers", c, changed(b, func(x *block.Block) { (*list(x))[k] = nil }), api.ErrForm)
						check(t, "a number less", c, changed(b, func(x *block.Block) { (*list(x))[k] = (*list(x))[k][1:] }), api.ErrForm)
						check(t, "a number more", c, changed(b, func(x *block.Block) { (*list(x))[k] = append((*list(x))[k], 1) }), api.ErrForm)
						check(t, "another number", c, changed(b, func(x *block.Block) { (*list(x))[k][0] = least }), api.OK)
					}
				}
			}
		}
	}
}

// P11.1: tokens at the vocabulary's ends, ahead of From and behind it.
func TestCheckOfTokens(t *testing.T) {
	for i, c := range sound() {
		for _, b := range []block.Block{some(c, 1, 0, uint32(i)), some(c, 5, 2, uint32(i)), some(c, 16, 0, uint32(i)), some(c, 128, 113, uint32(i))} {
			for _, at := range append(places(len(b.Tokens)), max(b.From-1, 0), b.From) {
				for token, want := range map[int]api.Errno{math.MinInt: api.ErrToken, -1: api.ErrToken, 0: api.OK, c.Vocab - 1: api.OK, c.Vocab: api.ErrToken, c.Vocab + 1: api.ErrToken, 256: api.ErrToken, 1 << 32: api.ErrToken, math.MaxInt: api.ErrToken} {
					check(t, "another token", c, changed(b, func(x *block.Block) { x.Tokens[at] = token }), want)
				}
			}
		}
	}
}

// P11.1: with several errors at once the one that is named first.
func TestCheckInOrder(t *testing.T) {
	for i, c := range sound() {
		for _, b := range []block.Block{some(c, 3, 0, uint32(i)), some(c, 16, 0, uint32(i)), some(c, 128, 113, uint32(i))} {
			for _, token := range []int{-1, c.Vocab} {
				for _, at := range places(len(b.Tokens)) {
					bad := changed(b, func(x *block.Block) { x.Tokens[at] = token })
					short := changed(bad, func(x *block.Block) { x.Cache.Keys[0] = x.Cache.Keys[0][1:] })
					thin := changed(bad, func(x *block.Block) { l := x.Cache.Vals[c.Layers-1]; l[len(l)-1] = nil })
					for _, x := range []block.Block{bad, short, thin} {
						check(t, "a token, and rows", c, x, api.ErrToken)
						check(t, "and From", c, changed(x, func(y *block.Block) { y.From = -1 }), api.ErrForm)
						check(t, "and a From beyond", c, changed(x, func(y *block.Block) { y.From = len(y.Tokens) }), api.ErrForm)
						check(t, "and a list more", c, changed(x, func(y *block.Block) { y.Cache.Keys = append(y.Cache.Keys, nil) }), api.ErrForm)
						check(t, "and a list less", c, changed(x, func(y *block.Block) { y.Cache.Vals = y.Cache.Vals[1:] }), api.ErrForm)
						check(t, "and too many tokens", c, changed(x, func(y *block.Block) { y.Tokens = append(y.Tokens, make([]int, 128)...) }), api.ErrForm)
					}
				}
			}
		}
	}
}

// P11.1: configurations that aren't right themselves are not looked at.
func TestCheckOfAnyConfig(t *testing.T) {
	for _, c := range odd() {
		for _, b := range []block.Block{some(c, 1, 0, 1), some(c, 16, 0, 1), some(c, 128, 113, 1)} {
			check(t, "right", c, b, api.OK)
			check(t, "a wrong token", c, changed(b, func(x *block.Block) { x.Tokens[0] = -1 }), api.ErrToken)
			check(t, "a list more", c, changed(b, func(x *block.Block) { x.Cache.Keys = append(x.Cache.Keys, nil) }), api.ErrForm)
			if c.Layers > 0 {
				check(t, "a number more", c, changed(b, func(x *block.Block) { x.Cache.Vals[0][0] = append(x.Cache.Vals[0][0], 1) }), api.ErrForm)
			}
		}
		check(t, "too many tokens", c, some(c, 129, 120, 1), api.ErrForm)
	}
	b := some(config(5, 4, 2, 3, 2), 3, 1, 1)
	for c, want := range map[api.Config]api.Errno{
		config(0, 4, 2, 3, 2): api.ErrToken, config(-5, 4, 2, 3, 2): api.ErrToken, config(math.MinInt, 4, 2, 3, 2): api.ErrToken, config(5, -4, 2, 3, 2): api.ErrForm, config(5, math.MinInt, 2, 3, 2): api.ErrForm, config(5, math.MaxInt, 2, 3, 2): api.ErrForm, config(5, 4, 2, 3, -2): api.ErrForm, config(5, 4, 2, 3, math.MinInt): api.ErrForm, config(5, 4, 2, 3, math.MaxInt): api.ErrForm,
		config(0, 4, 2, 3, -2): api.ErrForm, config(0, 5, 2, 3, 2): api.ErrToken, config(0, -4, 2, 3, 2): api.ErrToken, {}: api.ErrForm,
	} {
		check(t, "of another configuration", c, b, want)
	}
	bare := block.Block{Tokens: []int{4, 4, 4}, From: 1}
	for c, want := range map[api.Config]api.Errno{
		config(5, 4, 2, 3, 0): api.OK, config(5, -4, 2, 3, 0): api.OK, config(5, math.MinInt, 2, 3, 0): api.OK, config(5, math.MaxInt, 2, 3, 0): api.OK, config(5, 4, 2, 3, -1): api.ErrForm, config(4, 4, 2, 3, 0): api.ErrToken, config(4, 4, 2, 3, -1): api.ErrForm, config(5, 4, 2, 3, math.MinInt): api.ErrForm,
	} {
		check(t, "no lists", c, bare, want)
	}
}

// P11.1: a list that is nil and an empty one are the same.
func TestCheckOfEmpty(t *testing.T) {
	c := config(5, 0, 2, 3, 2)
	for _, rows := range [][][]api.Num{{nil}, {{}}} {
		check(t, "rows of nothing", c, block.Block{Tokens: []int{4}, Cache: pass.Cache{Keys: [][][]api.Num{rows, rows}, Vals: [][][]api.Num{rows, {{}}}}}, api.OK)
	}
	for _, lists := range [][][][]api.Num{nil, {}} {
		check(t, "no lists", config(5, 3, 2, 3, 0), block.Block{Tokens: []int{4}, Cache: pass.Cache{Keys: lists, Vals: lists}}, api.OK)
		check(t, "no lists", config(5, 3, 2, 3, 1), block.Block{Tokens: []int{4}, Cache: pass.Cache{Keys: lists, Vals: lists}}, api.ErrForm)
	}
	for _, tokens := range [][]int{nil, {}} {
		check(t, "no tokens", config(5, 3, 2, 3, 0), block.Block{Tokens: tokens}, api.ErrForm)
	}
}
