package block_test

import (
	"math"
	"slices"
	"testing"

	"tiller/api"
	"tiller/block"
	"tiller/pass"
	"tiller/step"
)

// split is what Split answers without an error.
func split(t *testing.T, c api.Config, v step.View, page int) []block.Block {
	t.Helper()
	l, e := block.Split(c, v, page)
	if e != api.OK {
		t.Fatalf("Split(%v, %d tokens, %d): %d", c, len(v.Tokens), page, e)
	}
	return l
}

// cut is what the chapter says of a view's block from a place up to another one.
func cut(v step.View, from, to int) block.Block {
	part := func(lists [][][]api.Num) [][][]api.Num {
		var l [][][]api.Num
		for _, rows := range lists {
			l = append(l, rows[from:to])
		}
		return l
	}
	return clone(block.Block{Tokens: v.Tokens[:to], From: from, Cache: pass.Cache{Keys: part(v.Cache.Keys), Vals: part(v.Cache.Vals)}})
}

// checkSplit holds Split, and Join of it, against what the chapter says.
func checkSplit(t *testing.T, c api.Config, v step.View, page int) {
	t.Helper()
	n := len(v.Tokens)
	l := split(t, c, v, page)
	if len(l) != (n+page-1)/page {
		t.Fatalf("%v: %d tokens in pages of %d: %d blocks", c, n, page, len(l))
	}
	for i, b := range l {
		if want := cut(v, i*page, min(i*page+page, n)); !equal(b, want) {
			t.Errorf("%v: %d tokens in pages of %d: block %d is another one", c, n, page, i)
		}
		if e := block.Check(c, b); e != api.OK {
			t.Errorf("%v: %d tokens in pages of %d: block %d: %d", c, n, page, i, e)
		}
	}
	if x, e := block.Join(c, l); e != api.OK || !equalView(x, v) {
		t.Errorf("%v: %d tokens in pages of %d: joined to another view, %d", c, n, page, e)
	}
}

// P11.1: views of all lengths in pages of all sizes.
func TestSplit(t *testing.T) {
	for i, c := range sound() {
		for page := 1; page <= api.MaxPage; page++ {
			for _, n := range []int{0, 1, 2, 3, page - 1, page, page + 1, 2*page - 1, 2 * page, 2*page + 1, 7 * page, 20, 64, 112, 127, 128} {
				checkSplit(t, c, someView(c, n, uint32(i)), page)
			}
		}
	}
	for n := range api.MaxTokens + 1 {
		for page := 1; page <= api.MaxPage; page++ {
			checkSplit(t, config(5, 2, 1, 3, 2), someView(config(5, 2, 1, 3, 2), n, uint32(n)), page)
		}
	}
}

// P11.1: views that a model made.
func TestSplitOfModels(t *testing.T) {
	for i, c := range sound() {
		for seed := range uint64(3) {
			for _, n := range []int{1, 5, 19} {
				v := told(t, c, n, seed*100+uint64(i))
				for _, page := range []int{1, 2, 5, 16} {
					checkSplit(t, c, v, page)
				}
			}
		}
	}
	c := config(5, 4, 2, 3, 2)
	for _, page := range []int{1, 7, 16} {
		checkSplit(t, c, told(t, c, api.MaxTokens, 5), page)
	}
}

// P11.1: configurations that aren't right themselves.
func TestSplitOfAnyConfig(t *testing.T) {
	for _, c := range append(odd(), api.Config{Vocab: 3, Dim: -1}, api.Config{Vocab: 3, Dim: math.MinInt}) {
		for _, n := range []int{0, 1, 5, 128} {
			v := step.View{Tokens: prompt(c, n, 1)}
			if c.Layers > 0 {
				v = someView(c, n, 1)
			}
			for _, page := range []int{1, 3, 16} {
				checkSplit(t, c, v, page)
			}
		}
	}
	for _, c := range []api.Config{{}, config(-1, -1, -1, -1, -1), config(math.MinInt, math.MinInt, math.MinInt, math.MinInt, math.MinInt), config(math.MaxInt, math.MaxInt, math.MaxInt, math.MaxInt, math.MaxInt)} {
		checkSplit(t, c, step.View{}, 1)
		checkSplit(t, c, step.View{Tokens: []int{}, Cache: pass.Cache{Keys: [][][]api.Num{}, Vals: [][][]api.Num{}}}, 16)
		checkNoSplit(t, c, step.View{Tokens: []int{0}}, 1, api.ErrForm)
	}
}

// checkNoSplit holds an error of Split against the wanted one, and looks that there is nothing beside it.
func checkNoSplit(t *testing.T, c api.Config, v step.View, page int, want api.Errno) {
	t.Helper()
	if l, e := block.Split(c, v, page); e != want || len(l) != 0 {
		t.Errorf("Split(%v, %d tokens, %d): %d blocks, %d, not %d", c, len(v.Tokens), page, len(l), e, want)
	}
}

// misfits are views that haven't the form of a configuration.
func misfits(c api.Config) []step.View {
	v := someView(c, 5, 1)
	change := func(f func(*step.View)) step.View {
		x := cloneView(v)
		f(&x)
		return x
	}
	return []step.View{
		someView(c, 129, 1), {Tokens: v.Tokens}, {Cache: v.Cache}, {Cache: pass.Cache{Keys: make([][][]api.Num, c.Layers), Vals: make([][][]api.Num, c.Layers)}}, {Cache: pass.Cache{Keys: make([][][]api.Num, 1)}},
		change(func(x *step.View) { x.Tokens[0] = -1 }), change(func(x *step.View) { x.Tokens[4] = c.Vocab }), change(func(x *step.View) { x.Tokens = x.Tokens[1:] }), change(func(x *step.View) { x.Tokens = append(x.Tokens, 0) }),
		change(func(x *step.View) { x.Cache.Keys = x.Cache.Keys[1:] }), change(func(x *step.View) { x.Cache.Vals = append(x.Cache.Vals, nil) }), change(func(x *step.View) { x.Cache.Vals[c.Layers-1] = x.Cache.Vals[c.Layers-1][:4] }), change(func(x *step.View) { x.Cache.Keys[0] = append(x.Cache.Keys[0], x.Cache.Keys[0][0]) }), change(func(x *step.View) { x.Cache.Keys[0][4] = nil }), change(func(x *step.View) { x.Cache.Vals[0][0] = append(x.Cache.Vals[0][0], 1) }),
	}
}

// P11.1: the errors of Split, in their order.
func TestSplitErrors(t *testing.T) {
	for _, c := range sound() {
		right := []step.View{{}, someView(c, 1, 1), someView(c, 5, 1), someView(c, 128, 1)}
		for _, page := range []int{math.MinInt, math.MinInt32, -16, -1, 0, 17, 18, 32, 128, 256, math.MaxInt32, 1 << 32, math.MaxInt - 1, math.MaxInt} {
			for _, v := range slices.Concat(right, misfits(c)) {
				checkNoSplit(t, c, v, page, api.ErrArg)
			}
		}
		for page := 1; page <= api.MaxPage; page++ {
			for i, v := range misfits(c) {
				if step.Fits(c, v) {
					t.Fatalf("%v: view %d has the form", c, i)
				}
				checkNoSplit(t, c, v, page, api.ErrForm)
			}
			for _, v := range right {
				checkSplit(t, c, v, page)
			}
		}
	}
}

// checkJoin holds Join against the wanted view.
func checkJoin(t *testing.T, what string, c api.Config, l []block.Block, want step.View) {
	t.Helper()
	if v, e := block.Join(c, l); e != api.OK || !equalView(v, want) {
		t.Errorf("%s: Join(%v, %d blocks): another view, %d", what, c, len(l), e)
	}
}

// checkNoJoin holds an error of Join against the wanted one, and looks that there is nothing beside it.
func checkNoJoin(t *testing.T, what string, c api.Config, l []block.Block, want api.Errno) {
	t.Helper()
	if v, e := block.Join(c, l); e != want || !equalView(v, step.View{}) {
		t.Errorf("%s: Join(%v, %d blocks): %d tokens, %d, not %d", what, c, len(l), len(v.Tokens), e, want)
	}
}

// P11.1: of no blocks there is the zero View, whatever the configuration.
func TestJoinOfNone(t *testing.T) {
	for _, c := range slices.Concat(sound(), odd(), []api.Config{{}, config(-1, -1, -1, -1, -1), config(math.MaxInt, math.MaxInt, math.MaxInt, math.MaxInt, math.MaxInt)}) {
		checkJoin(t, "nil", c, nil, step.View{})
		checkJoin(t, "none", c, []block.Block{}, step.View{})
		checkNoJoin(t, "a block of nothing", c, []block.Block{{}}, api.ErrForm)
	}
}

// P11.1: blocks in another order, twice, left out.
func TestJoinOfOthers(t *testing.T) {
	for i, c := range sound() {
		for _, page := range []int{1, 3, 8, 16} {
			v := someView(c, 5*page-page/2, uint32(i))
			l := split(t, c, v, page)
			for k := range l {
				without := slices.Delete(slices.Clone(l), k, k+1)
				if k == len(l)-1 {
					checkJoin(t, "the last one left out", c, without, step.Cut(v, k*page))
				} else {
					checkNoJoin(t, "one left out", c, without, api.ErrNone)
				}
				checkNoJoin(t, "one twice", c, slices.Insert(slices.Clone(l), k, l[k]), api.ErrNone)
				checkNoJoin(t, "one again at the end", c, append(slices.Clone(l), l[k]), api.ErrNone)
				if k > 0 {
					checkNoJoin(t, "the beginning left out", c, l[k:], api.ErrNone)
					checkNoJoin(t, "one alone", c, l[k:k+1], api.ErrNone)
					checkJoin(t, "the beginning", c, l[:k], step.Cut(v, k*page))
					swapped := slices.Clone(l)
					swapped[k-1], swapped[k] = swapped[k], swapped[k-1]
					checkNoJoin(t, "two in another order", c, swapped, api.ErrNone)
				}
			}
			turned := slices.Clone(l)
			slices.Reverse(turned)
			checkNoJoin(t, "turned round", c, turned, api.ErrNone)
			checkNoJoin(t, "all twice", c, append(slices.Clone(l), l...), api.ErrNone)
		}
	}
}

// P11.1: blocks of unlike pages fit, where one begins at the end of the other, and only there.
func TestJoinOfUnlikePages(t *testing.T) {
	for i, c := range sound() {
		for _, n := range []int{16, 47, 128} {
			v := someView(c, n, uint32(i))
			small, great := split(t, c, v, 4), split(t, c, v, 12)
			checkJoin(t, "4, 4, 4, 12 and so on", c, slices.Concat(small[:3], great[1:]), v)
			checkJoin(t, "12, 4 and so on", c, slices.Concat(great[:1], small[3:]), v)
			checkNoJoin(t, "4, 12 and so on", c, slices.Concat(small[:1], great[1:]), api.ErrNone)
			checkNoJoin(t, "12 and 4 inside", c, slices.Concat(great[:1], small[2:]), api.ErrNone)
			checkNoJoin(t, "4 and 12 from the beginning", c, slices.Concat(small[:1], great), api.ErrNone)
			var all []block.Block
			for from, size := 0, 1; from < n; from, size = from+size, size%16+1 {
				all = append(all, cut(v, from, min(from+size, n)))
			}
			checkJoin(t, "1, 2, 3 and so on", c, all, v)
		}
	}
}

// P11.1: blocks whose Tokens ahead of From are others.
func TestJoinOfOtherTokens(t *testing.T) {
	for i, c := range sound() {
		v := someView(c, 23, uint32(i))
		l := split(t, c, v, 6)
		for k := 1; k < len(l); k++ {
			for _, at := range places(l[k].From) {
				x := slices.Clone(l)
				x[k] = changed(l[k], func(b *block.Block) { b.Tokens[at] = (b.Tokens[at] + 1) % c.Vocab })
				checkNoJoin(t, "another token ahead", c, x, api.ErrNone)
			}
			x := slices.Clone(l[:k+1])
			last := len(x[k].Tokens) - 1
			x[k] = changed(l[k], func(b *block.Block) { b.Tokens[last] = (b.Tokens[last] + 1) % c.Vocab })
			want := step.Cut(v, last+1)
			want.Tokens[last] = x[k].Tokens[last]
			checkJoin(t, "another token of its own", c, x, want)
		}
		other := split(t, c, someView(c, 23, uint32(i)+77), 6)
		same := slices.Equal(other[0].Tokens, l[0].Tokens)
		if !same {
			checkNoJoin(t, "of another view", c, []block.Block{l[0], other[1]}, api.ErrNone)
		}
	}
}

// P11.1: rows of a block with the same tokens are taken as they are.
func TestJoinOfOtherRows(t *testing.T) {
	c := config(5, 4, 2, 3, 2)
	v := someView(c, 9, 1)
	l := split(t, c, v, 4)
	l[1].Cache = someCache(c, 4, 99)
	want := cloneView(v)
	for i := range c.Layers {
		copy(want.Cache.Keys[i][4:8], l[1].Cache.Keys[i])
		copy(want.Cache.Vals[i][4:8], l[1].Cache.Vals[i])
	}
	checkJoin(t, "other rows", c, l, want)
}

// P11.1: the errors of Join: block by block, and of one block that of Check first.
func TestJoinErrors(t *testing.T) {
	for i, c := range sound() {
		l := split(t, c, someView(c, 20, uint32(i)), 5)
		form := func(b block.Block) block.Block {
			return changed(b, func(x *block.Block) { x.Cache.Vals[c.Layers-1][4] = nil })
		}
		token := func(b block.Block) block.Block {
			return changed(b, func(x *block.Block) { x.Tokens[0] = c.Vocab })
		}
		with := func(change map[int]block.Block) []block.Block {
			x := slices.Clone(l)
			for k, b := range change {
				x[k] = b
			}
			return x
		}
		for k := range l {
			checkNoJoin(t, "a form", c, with(map[int]block.Block{k: form(l[k])}), api.ErrForm)
			checkNoJoin(t, "a token", c, with(map[int]block.Block{k: token(l[k])}), api.ErrToken)
			checkNoJoin(t, "a token and a form", c, with(map[int]block.Block{k: token(form(l[k]))}), api.ErrToken)
			checkNoJoin(t, "a From of -1", c, with(map[int]block.Block{k: changed(l[k], func(x *block.Block) { x.From = -1 })}), api.ErrForm)
			other := (k + 1) % len(l)
			checkNoJoin(t, "a form at another place", c, with(map[int]block.Block{k: form(l[other])}), api.ErrForm)
			checkNoJoin(t, "a token at another place", c, with(map[int]block.Block{k: token(l[other])}), api.ErrToken)
			checkNoJoin(t, "another block", c, with(map[int]block.Block{k: l[other]}), api.ErrNone)
			for later := k + 1; later < len(l); later++ {
				checkNoJoin(t, "a form, a token", c, with(map[int]block.Block{k: form(l[k]), later: token(l[later])}), api.ErrForm)
				checkNoJoin(t, "a token, a form", c, with(map[int]block.Block{k: token(l[k]), later: form(l[later])}), api.ErrToken)
				checkNoJoin(t, "another block, a form", c, with(map[int]block.Block{k: l[other], later: form(l[later])}), api.ErrNone)
				checkNoJoin(t, "another block, a token", c, with(map[int]block.Block{k: l[other], later: token(l[later])}), api.ErrNone)
				checkNoJoin(t, "a form, another block", c, with(map[int]block.Block{k: form(l[k]), later: l[k]}), api.ErrForm)
			}
		}
		checkNoJoin(t, "of another configuration", config(c.Vocab, c.Dim+1, 1, 1, c.Layers), l, api.ErrForm)
		checkNoJoin(t, "of another configuration", config(c.Vocab, c.Dim, 1, 1, c.Layers+1), l, api.ErrForm)
		checkNoJoin(t, "of another configuration", config(0, c.Dim, 1, 1, c.Layers), l, api.ErrToken)
	}
}

// P11.1: a view of MaxTokens is whole: a block more has too many tokens.
func TestJoinOfMost(t *testing.T) {
	for i, c := range sound() {
		v := someView(c, api.MaxTokens, uint32(i))
		l := split(t, c, v, 16)
		checkJoin(t, "MaxTokens", c, l, v)
		more := someView(c, api.MaxTokens+1, uint32(i))
		checkNoJoin(t, "one more", c, append(l, cut(more, 128, 129)), api.ErrForm)
		checkNoJoin(t, "one more in the last block", c, append(slices.Clone(l[:7]), cut(more, 112, 129)), api.ErrForm)
	}
}

// P11.1: a view that was joined goes on as the one that was split.
func TestJoinAndFits(t *testing.T) {
	for i, c := range sound() {
		v := told(t, c, 11, uint64(i))
		x, e := block.Join(c, split(t, c, v, 4))
		if e != api.OK || !step.Fits(c, x) || !equalView(step.Cut(x, 7), step.Cut(v, 7)) {
			t.Errorf("%v: another view, %d", c, e)
		}
	}
}

// The chapter's examples.
func TestExamples(t *testing.T) {
	for i, c := range sound() {
		l := split(t, c, told(t, c, 3, uint64(i)), 2)
		if len(l) != 2 || l[0].From != 0 || l[1].From != 2 || len(l[0].Tokens) != 2 || len(l[1].Tokens) != 3 {
			t.Errorf("%v: Split: %v", c, l)
		}
		checkNoJoin(t, "the second one alone", c, l[1:], api.ErrNone)
		if b, e := block.Read(c, ""); e != api.ErrEnd || !equal(b, block.Block{}) {
			t.Errorf("%v: Read of nothing: %v, %d", c, b, e)
		}
	}
}
