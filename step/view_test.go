package step_test

import (
	"math"
	"slices"
	"testing"

	"tiller/api"
	"tiller/model"
	"tiller/pass"
	"tiller/step"
)

// checkFits holds Fits against what is wanted.
func checkFits(t *testing.T, what string, c api.Config, v step.View, want bool) {
	t.Helper()
	if step.Fits(c, v) != want {
		t.Errorf("%s: Fits(%v, %d tokens) is not %t", what, c, len(v.Tokens), want)
	}
}

// P9.2: views of all lengths that have the form.
func TestFits(t *testing.T) {
	for i, c := range sound() {
		checkFits(t, "the zero View", c, step.View{}, true)
		checkFits(t, "empty lists", c, step.View{Tokens: []int{}, Cache: pass.Cache{Keys: [][][]api.Num{}, Vals: [][][]api.Num{}}}, true)
		for _, n := range []int{1, 2, 3, 64, 127, 128} {
			checkFits(t, "in form", c, some(c, n, uint32(i)), true)
		}
		for _, n := range []int{129, 130, 1000} {
			checkFits(t, "too many tokens", c, some(c, n, uint32(i)), false)
		}
	}
}

// P9.2: views without tokens, and with lists or rows none the less.
func TestFitsOfNoTokens(t *testing.T) {
	for _, c := range sound() {
		row := make([]api.Num, c.Dim)
		for _, lists := range [][][][]api.Num{
			make([][][]api.Num, 1), make([][][]api.Num, c.Layers), make([][][]api.Num, c.Layers+1), {{}}, {{nil}}, {{row}}, {{row, row}}, slices.Repeat([][][]api.Num{{row}}, c.Layers), slices.Repeat([][][]api.Num{{{}}}, c.Layers),
		} {
			checkFits(t, "Keys and Vals", c, step.View{Cache: pass.Cache{Keys: lists, Vals: lists}}, false)
			checkFits(t, "Keys alone", c, step.View{Cache: pass.Cache{Keys: lists}}, false)
			checkFits(t, "Vals alone", c, step.View{Tokens: []int{}, Cache: pass.Cache{Vals: lists}}, false)
		}
	}
}

// sides are the two halves of a view's Cache, to be changed.
func sides(v *step.View) []*[][][]api.Num {
	return []*[][][]api.Num{&v.Cache.Keys, &v.Cache.Vals}
}

// some places: the first one, one in the middle, and the last one.
func places(n int) []int {
	return []int{0, n / 2, n - 1}
}

// P9.2: too few and too many lists.
func TestFitsOfLists(t *testing.T) {
	for i, c := range sound() {
		for _, n := range []int{1, 3, 128} {
			v := some(c, n, uint32(i))
			for side := range 2 {
				for _, at := range places(c.Layers) {
					checkFits(t, "a list less", c, changed(v, func(x *step.View) { s := sides(x)[side]; *s = slices.Delete(*s, at, at+1) }), false)
					checkFits(t, "a list more", c, changed(v, func(x *step.View) { s := sides(x)[side]; *s = slices.Insert(*s, at, (*s)[at]) }), false)
				}
				checkFits(t, "an empty list more", c, changed(v, func(x *step.View) { s := sides(x)[side]; *s = append(*s, nil) }), false)
				checkFits(t, "no lists", c, changed(v, func(x *step.View) { *sides(x)[side] = nil }), false)
				checkFits(t, "one list for all", c, changed(v, func(x *step.View) { s := sides(x)[side]; *s = append([][][]api.Num{slices.Concat(*s...)}, (*s)[1:]...) }), c.Layers == 1)
			}
			checkFits(t, "no Cache", c, step.View{Tokens: v.Tokens}, false)
			checkFits(t, "a list less on both sides", c, step.View{Tokens: v.Tokens, Cache: pass.Cache{Keys: v.Cache.Keys[1:], Vals: v.Cache.Vals[1:]}}, false)
		}
	}
}

// P9.2: too few and too many rows, and numbers of a row, at each place that is looked at.
func TestFitsOfRows(t *testing.T) {
	for i, c := range sound() {
		for _, n := range []int{1, 3, 128} {
			v := some(c, n, uint32(i))
			for side := range 2 {
				for _, at := range places(c.Layers) {
					list := func(x *step.View) *[][]api.Num { return &(*sides(x)[side])[at] }
					checkFits(t, "no rows", c, changed(v, func(x *step.View) { *list(x) = nil }), false)
					for _, k := range places(n) {
						checkFits(t, "a row less", c, changed(v, func(x *step.View) { l := list(x); *l = slices.Delete(*l, k, k+1) }), false)
						checkFits(t, "a row more", c, changed(v, func(x *step.View) { l := list(x); *l = slices.Insert(*l, k, (*l)[k]) }), false)
						checkFits(t, "no numbers", c, changed(v, func(x *step.View) { (*list(x))[k] = nil }), false)
						checkFits(t, "a number less", c, changed(v, func(x *step.View) { (*list(x))[k] = (*list(x))[k][1:] }), false)
						checkFits(t, "a number more", c, changed(v, func(x *step.View) { (*list(x))[k] = append((*list(x))[k], 1) }), false)
						checkFits(t, "another number", c, changed(v, func(x *step.View) { (*list(x))[k][0] = least }), true)
					}
				}
			}
			checkFits(t, "a token less", c, changed(v, func(x *step.View) { x.Tokens = x.Tokens[1:] }), false)
			checkFits(t, "a token more", c, changed(v, func(x *step.View) { x.Tokens = append(x.Tokens, 0) }), false)
		}
	}
}

// P9.2: tokens at the vocabulary's ends.
func TestFitsOfTokens(t *testing.T) {
	for i, c := range sound() {
		for _, n := range []int{1, 3, 128} {
			v := some(c, n, uint32(i))
			for _, at := range places(n) {
				for token, want := range map[int]bool{math.MinInt: false, -1: false, 0: true, 1: true, c.Vocab - 1: true, c.Vocab: false, c.Vocab + 1: false, 1 << 32: false, math.MaxInt: false} {
					checkFits(t, "another token", c, changed(v, func(x *step.View) { x.Tokens[at] = token }), want)
				}
			}
		}
	}
}

// P9.2: configurations that aren't right themselves are not looked at.
func TestFitsOfAnyConfig(t *testing.T) {
	for _, c := range []api.Config{
		{}, config(0, 0, 0, 0, 0), config(-1, -1, -1, -1, -1), config(math.MinInt, math.MinInt, math.MinInt, math.MinInt, math.MinInt), config(math.MaxInt, math.MaxInt, math.MaxInt, math.MaxInt, math.MaxInt), config(65, 33, 5, 65, 5), config(5, 4, 3, 3, 2), config(1, 1, 1, 1, 1),
	} {
		checkFits(t, "the zero View", c, step.View{}, true)
		checkFits(t, "lists of none", c, step.View{Cache: pass.Cache{Keys: make([][][]api.Num, 2), Vals: make([][][]api.Num, 2)}}, false)
	}
	for _, c := range []api.Config{
		config(65, 4, 2, 3, 2), config(1000, 4, 2, 3, 2), config(math.MaxInt, 4, 2, 3, 2), config(1, 4, 2, 3, 2), config(5, 33, 1, 3, 2), config(5, 200, 1, 3, 2), config(5, 0, 1, 3, 2), config(5, 4, 3, 3, 2), config(5, 4, 0, 3, 2), config(5, 4, -1, 3, 2), config(5, 4, 99, 3, 2), config(5, 4, 2, 0, 2), config(5, 4, 2, 65, 2), config(5, 4, 2, 3, 5), config(5, 4, 2, 3, 40), config(5, 4, 2, 3, 0), config(5, -4, 2, 3, 0), config(65, 33, 5, 65, 5),
	} {
		for _, n := range []int{1, 3, 128} {
			v := some(c, n, 1)
			checkFits(t, "in form", c, v, true)
			checkFits(t, "a wrong token", c, changed(v, func(x *step.View) { x.Tokens[n-1] = -1 }), false)
			checkFits(t, "a list more", c, changed(v, func(x *step.View) { x.Cache.Keys = append(x.Cache.Keys, nil) }), false)
		}
		checkFits(t, "too many tokens", c, some(c, 129, 1), false)
	}
	v := some(config(5, 4, 2, 3, 2), 3, 1)
	for _, c := range []api.Config{config(0, 4, 2, 3, 2), config(-5, 4, 2, 3, 2), config(math.MinInt, 4, 2, 3, 2), config(5, -4, 2, 3, 2), config(5, math.MinInt, 2, 3, 2), config(5, math.MaxInt, 2, 3, 2), config(5, 4, 2, 3, -2), config(5, 4, 2, 3, math.MinInt), config(5, 4, 2, 3, math.MaxInt)} {
		checkFits(t, "of another configuration", c, v, false)
		checkFits(t, "no Cache", c, step.View{Tokens: []int{0}}, false)
	}
	checkFits(t, "of no layers", config(5, 4, 2, 3, 0), step.View{Tokens: []int{4}}, true)
	checkFits(t, "of fewer than no layers", config(5, 4, 2, 3, -1), step.View{Tokens: []int{4}}, false)
	checkFits(t, "rows of nothing", config(5, 0, 2, 3, 1), step.View{Tokens: []int{4}, Cache: pass.Cache{Keys: [][][]api.Num{{nil}}, Vals: [][][]api.Num{{{}}}}}, true)
}

// odd are views that have no configuration's form.
func odd() []step.View {
	row := []api.Num{1, 2}
	v := some(config(5, 4, 2, 3, 2), 4, 3)
	return []step.View{
		{}, {Tokens: []int{1}}, {Tokens: []int{-7, math.MaxInt, math.MinInt}}, {Cache: pass.Cache{Keys: make([][][]api.Num, 3)}}, {Cache: pass.Cache{Vals: [][][]api.Num{{row}, nil, {nil, {}}}}},
		{Tokens: []int{3, 4}, Cache: pass.Cache{Keys: [][][]api.Num{{row}, {row, row, row}, {}}, Vals: [][][]api.Num{nil}}},
		{Tokens: []int{3, 4, 5}, Cache: pass.Cache{Keys: [][][]api.Num{nil}, Vals: [][][]api.Num{{row, nil, row, {9}}, {row}}}},
		changed(v, func(x *step.View) { x.Cache.Keys[0] = x.Cache.Keys[0][:1] }), changed(v, func(x *step.View) { x.Cache.Vals[1] = nil }), changed(v, func(x *step.View) { x.Cache.Vals = x.Cache.Vals[1:] }), changed(v, func(x *step.View) { x.Tokens = nil }), changed(v, func(x *step.View) { x.Tokens = make([]int, 500) }),
		some(config(5, 3, 1, 3, 7), 300, 1),
	}
}

// P9.2: Copy is the same view, whatever form it has.
func TestCopy(t *testing.T) {
	views := odd()
	for i, c := range sound() {
		views = append(views, some(c, 1, uint32(i)), some(c, 5, uint32(i)), some(c, 128, uint32(i)))
	}
	for i, v := range views {
		was := clone(v)
		if x := step.Copy(v); !equal(x, was) || !equal(v, was) {
			t.Errorf("%d: Copy is another view", i)
		}
	}
}

// cut is what the chapter says of the first n tokens of a view.
func cut(v step.View, n int) step.View {
	n = min(max(n, 0), len(v.Tokens))
	if n == 0 {
		return step.View{}
	}
	x := clone(v)
	x.Tokens = x.Tokens[:n]
	for _, side := range sides(&x) {
		for i, rows := range *side {
			if len(rows) > n {
				(*side)[i] = rows[:n]
			}
		}
	}
	return x
}

// P9.2: Cut at and beyond its ends, of views that have a form and of others.
func TestCut(t *testing.T) {
	views := odd()
	for i, c := range sound() {
		views = append(views, some(c, 1, uint32(i)), some(c, 5, uint32(i)), some(c, 128, uint32(i)))
	}
	for i, v := range views {
		was := clone(v)
		for _, n := range []int{math.MinInt, -2, -1, 0, 1, 2, 3, 4, 5, 6, 127, 128, 129, len(v.Tokens) - 1, len(v.Tokens), len(v.Tokens) + 1, math.MaxInt} {
			if x := step.Cut(v, n); !equal(x, cut(was, n)) {
				t.Errorf("%d: Cut of %d tokens at %d: %v", i, len(v.Tokens), n, x)
			}
		}
		if !equal(v, was) {
			t.Errorf("%d: Cut changed the view", i)
		}
	}
}

// P9.2: of none there is the zero View, also of lists without tokens.
func TestCutToNone(t *testing.T) {
	c := config(5, 4, 2, 3, 2)
	v := some(c, 3, 1)
	bare := changed(v, func(x *step.View) { x.Tokens = nil })
	for _, n := range []int{math.MinInt, -1, 0} {
		if !nothing(step.Cut(v, n)) || !nothing(step.Cut(step.View{}, n)) {
			t.Errorf("Cut at %d isn't the zero View", n)
		}
	}
	for _, n := range []int{math.MinInt, -1, 0, 1, 3, math.MaxInt} {
		if !nothing(step.Cut(bare, n)) {
			t.Errorf("Cut of no tokens at %d isn't the zero View", n)
		}
	}
}

// P9.2: lists with fewer rows than tokens are left as they are.
func TestCutOfShortLists(t *testing.T) {
	a, b, d := []api.Num{1}, []api.Num{2}, []api.Num{3}
	v := step.View{Tokens: []int{7, 8, 9}, Cache: pass.Cache{Keys: [][][]api.Num{{a}, {}, {a, b, d, a}}, Vals: [][][]api.Num{{a, b}, {a, b, d}}}}
	want := step.View{Tokens: []int{7, 8}, Cache: pass.Cache{Keys: [][][]api.Num{{a}, {}, {a, b}}, Vals: [][][]api.Num{{a, b}, {a, b}}}}
	if x := step.Cut(v, 2); !equal(x, want) {
		t.Errorf("Cut: %v", x)
	}
	if x := step.Cut(v, 3); len(x.Cache.Keys[2]) != 3 || len(x.Cache.Keys[0]) != 1 || len(x.Cache.Vals[0]) != 2 {
		t.Errorf("Cut: %v", x)
	}
}

// P9.1, P9.2: a view that was cut, and fed again, is as it was; a cut one is that of the beginning.
func TestCutAndFeed(t *testing.T) {
	for i, c := range sound() {
		w, tokens := made(t, c, uint64(i)), prompt(c, 7, i)
		whole, want := all(t, c, w, step.View{}, tokens)
		for n := range len(tokens) {
			part := step.Cut(whole, n)
			if n > 0 {
				if beginning, _ := all(t, c, w, step.View{}, tokens[:n]); !equal(part, beginning) {
					t.Errorf("%v: cut at %d: not the view of the beginning", c, n)
				}
			}
			if !step.Fits(c, part) {
				t.Errorf("%v: cut at %d: hasn't the form", c, n)
			}
			var likes []api.Num
			for _, token := range tokens[n:] {
				part, likes = fed(t, c, w, part, token)
			}
			if !equal(part, whole) || !slices.Equal(likes, want) {
				t.Errorf("%v: cut at %d and fed again: another view", c, n)
			}
		}
		last := (tokens[6] + 1) % c.Vocab
		other, likes := fed(t, c, w, step.Cut(whole, 6), last)
		checkFull(t, c, w, append(slices.Clone(tokens[:6]), last), other, likes)
	}
	c := config(6, 4, 2, 5, 2)
	w, tokens := made(t, c, 5), prompt(c, api.MaxTokens, 3)
	whole, want := all(t, c, w, step.View{}, tokens)
	if v, likes := fed(t, c, w, step.Cut(whole, 127), tokens[127]); !equal(v, whole) || !slices.Equal(likes, want) {
		t.Errorf("MaxTokens: cut and fed again: another view")
	}
}

// The chapter's examples.
func TestExamples(t *testing.T) {
	for i, c := range sound() {
		w := made(t, c, uint64(i))
		for token := range c.Vocab {
			v, likes := fed(t, c, w, step.View{}, token)
			checkFull(t, c, w, []int{token}, v, likes)
		}
		three, want := all(t, c, w, step.View{}, []int{1, 0, 1})
		if v, likes := fed(t, c, w, step.Cut(three, 2), 1); !equal(v, three) || !slices.Equal(likes, want) {
			t.Errorf("%v: cut to two, and fed the third: another view", c)
		}
	}
}

// roomyRow is the same row with spare room behind it, filled with 77.
func roomyRow[T int | api.Num](row []T) []T {
	return append(slices.Clone(row), 77, 77, 77)[:len(row)]
}

// roomyLists are the same lists with spare room behind each list and row, filled with 77.
func roomyLists(lists [][][]api.Num) [][][]api.Num {
	var l [][][]api.Num
	for _, rows := range lists {
		var x [][]api.Num
		for _, row := range rows {
			x = append(x, roomyRow(row))
		}
		l = append(l, append(x, []api.Num{77}, []api.Num{77})[:len(rows)])
	}
	return append(l, [][]api.Num{{77}}, [][]api.Num{{77}})[:len(lists)]
}

// roomy is the same view with spare room behind each list, filled with 77.
func roomy(v step.View) step.View {
	return step.View{Tokens: roomyRow(v.Tokens), Cache: pass.Cache{Keys: roomyLists(v.Cache.Keys), Vals: roomyLists(v.Cache.Vals)}}
}

// rowStays tells whether a roomy row, and the room behind it, is as it was.
func rowStays[T int | api.Num](row, was []T) bool {
	return slices.Equal(row, was) && slices.Equal(row[len(row):len(row)+3], []T{77, 77, 77})
}

// listStays tells whether a roomy list of rows, and the room behind it, is as it was.
func listStays(rows, was [][]api.Num) bool {
	return slices.EqualFunc(rows, was, rowStays[api.Num]) && alike(rows[len(rows):len(rows)+2], [][]api.Num{{77}, {77}})
}

// listsStay tells whether roomy lists, and the room behind them, are as they were.
func listsStay(l, was [][][]api.Num) bool {
	return slices.EqualFunc(l, was, listStays) && slices.EqualFunc(l[len(l):len(l)+2], [][][]api.Num{{{77}}, {{77}}}, alike)
}

// stays tells whether a roomy view, and the room behind its lists, is as it was.
func stays(v, was step.View) bool {
	return rowStays(v.Tokens, was.Tokens) && listsStay(v.Cache.Keys, was.Cache.Keys) && listsStay(v.Cache.Vals, was.Cache.Vals)
}

// rowsOf are all rows of an answer.
func rowsOf(likes []api.Num, v step.View) [][]api.Num {
	l := [][]api.Num{likes}
	for _, rows := range slices.Concat(v.Cache.Keys, v.Cache.Vals) {
		l = append(l, rows...)
	}
	return l
}

// overwriteRows changes all rows, with the room behind them, and tells whether no two share memory.
func overwriteRows(rows [][]api.Num) bool {
	for k, row := range rows {
		row = row[:cap(row)]
		for i := range row {
			row[i] = api.Num(k)
		}
	}
	for k, row := range rows {
		if slices.ContainsFunc(row[:cap(row)], func(x api.Num) bool { return x != api.Num(k) }) {
			return false
		}
	}
	return true
}

// overwriteLists changes all lists of rows, with the room behind them, and tells whether no two share memory.
func overwriteLists(v step.View) bool {
	l := slices.Concat(v.Cache.Keys, v.Cache.Vals)
	for k, rows := range l {
		rows = rows[:cap(rows)]
		for j := range rows {
			rows[j] = []api.Num{api.Num(k)}
		}
	}
	for k, rows := range l {
		if slices.ContainsFunc(rows[:cap(rows)], func(row []api.Num) bool { return !slices.Equal(row, []api.Num{api.Num(k)}) }) {
			return false
		}
	}
	keys, vals := v.Cache.Keys[:cap(v.Cache.Keys)], v.Cache.Vals[:cap(v.Cache.Vals)]
	for i := range keys {
		keys[i] = [][]api.Num{{-1}}
	}
	for i := range vals {
		vals[i] = [][]api.Num{{-2}}
	}
	return !slices.ContainsFunc(keys, func(rows [][]api.Num) bool { return rows[0][0] != -1 })
}

// overwrite changes an answer in all its lists, with the room behind them, and tells whether no two of them share memory.
func overwrite(likes []api.Num, v step.View) bool {
	tokens := v.Tokens[:cap(v.Tokens)]
	for i := range tokens {
		tokens[i] = 4711
	}
	rows := overwriteRows(rowsOf(likes, v))
	return overwriteLists(v) && rows
}

// ways are the calls that answer a view of a roomy one.
func ways(t *testing.T, c api.Config, w model.Weights, v step.View, tokens []int) map[string]func() (step.View, []api.Num) {
	bare := func(make func() step.View) func() (step.View, []api.Num) {
		return func() (step.View, []api.Num) { return make(), nil }
	}
	n := len(v.Tokens)
	return map[string]func() (step.View, []api.Num){
		"Feed":             func() (step.View, []api.Num) { return fed(t, c, w, v, tokens[0]) },
		"All":              func() (step.View, []api.Num) { return all(t, c, w, v, tokens) },
		"All of one":       func() (step.View, []api.Num) { return all(t, c, w, v, tokens[:1]) },
		"Copy":             bare(func() step.View { return step.Copy(v) }),
		"Cut":              bare(func() step.View { return step.Cut(v, n/2) }),
		"Cut to one":       bare(func() step.View { return step.Cut(v, 1) }),
		"Cut to all":       bare(func() step.View { return step.Cut(v, n) }),
		"Cut to one more":  bare(func() step.View { return step.Cut(v, n+1) }),
		"Cut to none":      bare(func() step.View { return step.Cut(v, 0) }),
		"Feed of nothing":  func() (step.View, []api.Num) { return fed(t, c, w, step.View{}, tokens[0]) },
		"All from nothing": func() (step.View, []api.Num) { return all(t, c, w, step.View{}, tokens) },
	}
}

// P9.3: nothing that is handed in is changed, nor the room behind it; answers share no memory with it, with each other, nor within.
func TestKeepsApart(t *testing.T) {
	for i, c := range sound() {
		wasW := made(t, c, uint64(i))
		w := model.Copy(wasW)
		wasTokens := prompt(c, 3, i+1)
		tokens := roomyRow(wasTokens)
		for _, n := range []int{0, 1, 6} {
			was := some(c, n, uint32(i))
			if n == 0 {
				was = step.View{}
			}
			v := roomy(was)
			for name, ask := range ways(t, c, w, v, tokens) {
				first, likes := ask()
				second, likes2 := ask()
				want, wantLikes := clone(first), slices.Clone(likes)
				if !overwrite(likes, first) {
					t.Errorf("%v: %s of %d tokens: parts of one answer share memory", c, name, n)
				}
				if !equal(second, want) || !slices.Equal(likes2, wantLikes) {
					t.Errorf("%v: %s of %d tokens: answers share memory", c, name, n)
				}
				if !stays(v, was) || !rowStays(tokens, wasTokens) || !slices.EqualFunc(lists(&w), lists(&wasW), func(a, b *[]api.Num) bool { return slices.Equal(*a, *b) }) {
					t.Fatalf("%v: %s of %d tokens: what was handed in was changed", c, name, n)
				}
				if third, likes := ask(); !equal(third, want) || !slices.Equal(likes, wantLikes) {
					t.Errorf("%v: %s of %d tokens: not the same again", c, name, n)
				}
			}
		}
	}
}

// P9.3: a later change of what was handed in changes no answer.
func TestKeepsNothing(t *testing.T) {
	c := config(5, 4, 2, 6, 2)
	w := made(t, c, 4)
	was := some(c, 6, 2)
	for name := range ways(t, c, w, was, []int{4, 0, 2}) {
		v, tokens := roomy(was), []int{4, 0, 2}
		answer, likes := ways(t, c, w, v, tokens)[name]()
		want, wantLikes := clone(answer), slices.Clone(likes)
		overwrite(nil, v)
		tokens[0], tokens[1], tokens[2] = 9, 9, 9
		if !equal(answer, want) || !slices.Equal(likes, wantLikes) {
			t.Errorf("%s: hangs on what was handed in", name)
		}
	}
}

// P9.3: two views that go on behind one are apart from each other and from it.
func TestTwoBehindOne(t *testing.T) {
	c := config(5, 4, 2, 6, 2)
	w := made(t, c, 4)
	for n := 1; n < 20; n++ {
		tokens := prompt(c, n, n)
		v, _ := all(t, c, w, step.View{}, tokens)
		was := clone(v)
		a, likesA := fed(t, c, w, v, 1)
		b, likesB := fed(t, c, w, v, 2)
		checkFull(t, c, w, append(slices.Clone(tokens), 1), a, likesA)
		checkFull(t, c, w, append(slices.Clone(tokens), 2), b, likesB)
		wantB := clone(b)
		if !overwrite(likesA, a) || !equal(v, was) || !equal(b, wantB) {
			t.Errorf("behind %d tokens: views share memory", n)
		}
	}
}

// P9.3: lists of what is handed in may be one and the same memory.
func TestSharedLists(t *testing.T) {
	c := config(5, 4, 2, 6, 2)
	w := made(t, c, 4)
	row := []api.Num{65536, -5, 7, 90000}
	rows := [][]api.Num{row, row, row}
	lists := [][][]api.Num{rows, rows}
	v := step.View{Tokens: []int{1, 1, 1}, Cache: pass.Cache{Keys: lists, Vals: lists}}
	for name, ask := range ways(t, c, w, v, []int{4, 0, 2}) {
		answer, likes := ask()
		if name == "Feed" {
			if want, wantLikes := byHand(c, w, v, 4); !equal(answer, want) || !slices.Equal(likes, wantLikes) {
				t.Errorf("Feed: another view")
			}
		}
		if !overwrite(likes, answer) {
			t.Errorf("%s: parts of one answer share memory", name)
		}
		if !slices.Equal(row, []api.Num{65536, -5, 7, 90000}) {
			t.Fatalf("%s: what was handed in was changed", name)
		}
	}
}

// P9.3: beside an error nothing that is handed in is changed.
func TestErrorsKeepApart(t *testing.T) {
	c := config(5, 4, 2, 6, 2)
	w := made(t, c, 4)
	for _, n := range []int{2, 127, 128, 129} {
		was := some(c, n, 3)
		v := roomy(was)
		step.Feed(c, w, v, 5)
		step.Feed(c, model.Weights{}, v, 1)
		step.All(c, w, v, []int{1, 1, 5})
		step.All(c, w, v, slices.Repeat([]int{1}, 127))
		if !stays(v, was) {
			t.Errorf("%d tokens: what was handed in was changed", n)
		}
	}
}

// P9.1, P9.2: no call panics, whatever it is given.
func TestAnything(t *testing.T) {
	c := config(5, 4, 2, 6, 2)
	w := made(t, c, 4)
	for _, v := range odd() {
		for _, c := range []api.Config{c, {}, config(-1, -1, -1, -1, -1), config(math.MaxInt, math.MaxInt, math.MaxInt, math.MaxInt, math.MaxInt), config(math.MinInt, math.MinInt, math.MinInt, math.MinInt, math.MinInt)} {
			for _, w := range []model.Weights{w, {}, {Blocks: make([]model.Block, 3)}} {
				for _, token := range []int{math.MinInt, -1, 0, 5, math.MaxInt} {
					step.Fits(c, v)
					step.Feed(c, w, v, token)
					step.All(c, w, v, []int{token})
					step.All(c, w, v, []int{0, token, 1})
				}
			}
		}
	}
}
