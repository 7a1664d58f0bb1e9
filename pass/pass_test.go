package pass_test

import (
	"math"
	"slices"
	"testing"

	"tiller/api"
	"tiller/fix"
	"tiller/heads"
	"tiller/mat"
	"tiller/model"
	"tiller/pass"
	"tiller/soft"
	"tiller/vec"
)

const least = -api.Most - 1

// config is a configuration, its parts in the order of their names in the chapter of layer 6.
func config(vocab, dim, heads, hidden, layers int) api.Config {
	return api.Config{Vocab: vocab, Dim: dim, Heads: heads, Hidden: hidden, Layers: layers}
}

// sound are configurations that have no error.
func sound() []api.Config {
	return []api.Config{
		config(2, 1, 1, 1, 1), config(3, 2, 1, 5, 1), config(5, 4, 2, 6, 2), config(5, 6, 3, 4, 2), config(7, 4, 4, 3, 3), config(9, 9, 3, 9, 4),
		config(64, 1, 1, 64, 1), config(2, 32, 4, 1, 4), config(33, 30, 3, 63, 2), config(64, 31, 1, 5, 1), config(64, 32, 4, 64, 4),
	}
}

// made is a model that Make makes without an error.
func made(t *testing.T, c api.Config, seed uint64) model.Weights {
	t.Helper()
	w, e := model.Make(c, seed)
	if e != api.OK {
		t.Fatalf("Make(%v, %d): %d", c, seed, e)
	}
	return w
}

// lists are all of a model's rows and matrices' data, to be changed.
func lists(w *model.Weights) []*[]api.Num {
	l := []*[]api.Num{&w.Embed.Data, &w.Last, &w.Out.Data}
	for i := range w.Blocks {
		l = append(l, listsOf(&w.Blocks[i])...)
	}
	return l
}

// listsOf are all of one Block's.
func listsOf(b *model.Block) []*[]api.Num {
	return []*[]api.Num{&b.First, &b.Q.Data, &b.K.Data, &b.V.Data, &b.O.Data, &b.Second, &b.Up.Data, &b.Down.Data}
}

// steep is a model whose numbers are of all sizes, the least and the greatest one among them.
func steep(t *testing.T, c api.Config, seed uint64) model.Weights {
	t.Helper()
	w := made(t, c, seed)
	x := uint32(seed)*2654435761 + 12345
	for _, l := range lists(&w) {
		for i := range *l {
			x = x*1664525 + 1013904223
			n := api.Num(int32(x) >> ((x >> 8) % 28))
			if x>>28 == 0 {
				n = []api.Num{least, api.Most, -api.Most, 0}[x>>26%4]
			}
			(*l)[i] = n
		}
	}
	return w
}

// prompt is a row of n tokens, the same one each time.
func prompt(c api.Config, n, seed int) []int {
	l := make([]int, n)
	x := uint32(seed)*2654435761 + 4711
	for i := range l {
		x = x*1664525 + 1013904223
		l[i] = int(x>>8) % c.Vocab
	}
	return l
}

// good is a row that was answered without an error.
func good(t *testing.T) func([]api.Num, api.Errno) []api.Num {
	return func(row []api.Num, e api.Errno) []api.Num {
		t.Helper()
		if e != api.OK {
			t.Fatalf("a step has the error %d", e)
		}
		return row
	}
}

// begin is the row of a token at a place, as the chapter says it.
func begin(t *testing.T, w model.Weights, token, at int) []api.Num {
	t.Helper()
	row := good(t)(mat.Row(w.Embed, token))
	for j := range row {
		row[j] = fix.Add(row[j], []api.Num{0, api.Num(at) * 4096, api.Num(at) * 8192}[j%3])
	}
	return row
}

// each is what a function makes of each row.
func each(rows [][]api.Num, make func(row []api.Num) []api.Num) [][]api.Num {
	var l [][]api.Num
	for _, row := range rows {
		l = append(l, make(row))
	}
	return l
}

// layer is what the chapter makes of rows, step by step, all rows at once; with their k and v.
func layer(t *testing.T, c api.Config, b model.Block, x [][]api.Num) (rows, k, v [][]api.Num) {
	t.Helper()
	ok := good(t)
	n := each(x, func(row []api.Num) []api.Num { return ok(soft.Norm(row, b.First)) })
	q := each(n, func(row []api.Num) []api.Num { return ok(mat.Apply(b.Q, row)) })
	k = each(n, func(row []api.Num) []api.Num { return ok(mat.Apply(b.K, row)) })
	v = each(n, func(row []api.Num) []api.Num { return ok(mat.Apply(b.V, row)) })
	for i := range x {
		a := ok(heads.Attend(q[i], k[:i+1], v[:i+1], c.Heads))
		y := ok(vec.Add(x[i], ok(mat.Apply(b.O, a))))
		m := ok(soft.Norm(y, b.Second))
		up := vec.Rise(ok(mat.Apply(b.Up, m)))
		rows = append(rows, ok(vec.Add(y, ok(mat.Apply(b.Down, up)))))
	}
	return rows, k, v
}

// likes is how much tokens are liked behind a last row, as the chapter says it.
func likes(t *testing.T, w model.Weights, row []api.Num) []api.Num {
	t.Helper()
	return good(t)(mat.Apply(w.Out, good(t)(soft.Norm(row, w.Last))))
}

// full is what the chapter makes of tokens, step by step.
func full(t *testing.T, c api.Config, w model.Weights, tokens []int) ([]api.Num, pass.Cache) {
	t.Helper()
	var rows [][]api.Num
	for at, token := range tokens {
		rows = append(rows, begin(t, w, token, at))
	}
	var cache pass.Cache
	for _, b := range w.Blocks {
		made, k, v := layer(t, c, b, rows)
		cache.Keys, cache.Vals = append(cache.Keys, k), append(cache.Vals, v)
		rows = made
	}
	return likes(t, w, rows[len(rows)-1]), cache
}

// alike tells whether rows are the same, number by number.
func alike(a, b [][]api.Num) bool {
	return slices.EqualFunc(a, b, slices.Equal[[]api.Num])
}

// equal tells whether two Caches are the same, number by number.
func equal(a, b pass.Cache) bool {
	return slices.EqualFunc(a.Keys, b.Keys, alike) && slices.EqualFunc(a.Vals, b.Vals, alike)
}

// nothing tells whether a Cache is empty.
func nothing(c pass.Cache) bool {
	return len(c.Keys) == 0 && len(c.Vals) == 0
}

// until is the beginning of a Cache, of n places.
func until(c pass.Cache, n int) pass.Cache {
	var l pass.Cache
	for i := range c.Keys {
		l.Keys, l.Vals = append(l.Keys, c.Keys[i][:n]), append(l.Vals, c.Vals[i][:n])
	}
	return l
}

// answered is what Full says of tokens, without an error.
func answered(t *testing.T, c api.Config, w model.Weights, tokens []int) ([]api.Num, pass.Cache) {
	t.Helper()
	x, cache, e := pass.Full(c, w, tokens)
	if e != api.OK {
		t.Fatalf("Full(%v, .., %v): %d", c, tokens, e)
	}
	return x, cache
}

// checkFull holds what Full answers against the chapter's steps.
func checkFull(t *testing.T, c api.Config, w model.Weights, tokens []int) {
	t.Helper()
	x, cache := answered(t, c, w, tokens)
	want, wantCache := full(t, c, w, tokens)
	if !slices.Equal(x, want) || len(x) != c.Vocab {
		t.Fatalf("Full(%v, .., %v): %v, not %v", c, tokens, x, want)
	}
	if !equal(cache, wantCache) {
		t.Fatalf("Full(%v, .., %v): another Cache", c, tokens)
	}
}

// P8.1: one token, several, and as many as there may be.
func TestFull(t *testing.T) {
	for i, c := range sound() {
		for seed := range uint64(3) {
			w := made(t, c, seed*1000+uint64(i))
			for _, n := range []int{1, 2, 3, 7, 20} {
				checkFull(t, c, w, prompt(c, n, n+int(seed)))
			}
		}
		checkFull(t, c, made(t, c, math.MaxUint64), prompt(c, api.MaxTokens-1, 1))
		checkFull(t, c, made(t, c, 5), prompt(c, api.MaxTokens, 2))
		checkFull(t, c, made(t, c, 6), make([]int, api.MaxTokens))
		checkFull(t, c, made(t, c, 7), slices.Repeat([]int{c.Vocab - 1}, 9))
	}
	for seed := range uint64(100) {
		c := config(5, 4, 2, 6, 2)
		checkFull(t, c, made(t, c, seed), prompt(c, 5, int(seed)))
	}
}

// P8.1: each token of a vocabulary alone.
func TestFullOfEachToken(t *testing.T) {
	c := config(64, 6, 2, 7, 2)
	w := made(t, c, 3)
	for token := range c.Vocab {
		checkFull(t, c, w, []int{token})
		checkFull(t, c, w, []int{0, token})
	}
}

// P8.1: numbers of all sizes, at which sums and products end at their bounds.
func TestFullAtBounds(t *testing.T) {
	for i, c := range sound() {
		for seed := range uint64(4) {
			checkFull(t, c, steep(t, c, seed*1000+uint64(i)), prompt(c, 6, int(seed)))
		}
		for _, x := range []api.Num{least, -api.Most, -1, 0, 1, 65536, api.Most} {
			w := made(t, c, 1)
			for _, l := range lists(&w) {
				*l = slices.Repeat([]api.Num{x}, len(*l))
			}
			checkFull(t, c, w, prompt(c, 4, 1))
		}
	}
}

// P8.1: numbers that were reckoned apart from this program.
func TestFullByNumbers(t *testing.T) {
	for _, x := range []struct {
		c              api.Config
		seed           uint64
		tokens         []int
		likes          []api.Num
		lastKey, lastV []api.Num
	}{
		{config(2, 1, 1, 1, 1), 0, []int{1}, []api.Num{32443, 2976}, []api.Num{39377}, []api.Num{17273}},
		{config(2, 1, 1, 1, 1), 0, []int{0, 1, 1}, []api.Num{32442, 2976}, []api.Num{39377}, []api.Num{17273}},
		{config(5, 4, 2, 6, 2), 7, []int{1, 4, 2}, []api.Num{22086, -59801, 91827, 4305, -62661}, []api.Num{69291, -30704, -57966, 122718}, []api.Num{-57477, -98122, 5110, 24134}},
		{config(6, 6, 3, 5, 1), 4711, []int{5, 0, 0, 3, 5}, []api.Num{61828, 27195, 114172, 97246, -19442, -333}, []api.Num{65065, -117759, 22102, 40098, 74203, 86695}, []api.Num{72192, -223490, 15809, 59258, -9648, -51344}},
		{config(4, 4, 4, 3, 3), math.MaxUint64, []int{3, 2, 1, 0, 1, 2, 3}, []api.Num{53011, -71993, -72052, 16075}, []api.Num{-65624, 17024, -7903, -107646}, []api.Num{97784, -89485, 54739, -15332}},
		{config(3, 8, 1, 16, 4), 99, []int{2, 2, 2, 2}, []api.Num{-155567, 21921, 25882}, []api.Num{2468, 8015, -71893, 47226, 57297, 3140, -88207, 75506}, []api.Num{82069, 52722, 67542, 42571, -150106, 113048, 92199, 6065}},
	} {
		l, cache := answered(t, x.c, made(t, x.c, x.seed), x.tokens)
		if !slices.Equal(l, x.likes) {
			t.Errorf("Full(%v, %d, %v): %v, not %v", x.c, x.seed, x.tokens, l, x.likes)
		}
		i, at := x.c.Layers-1, len(x.tokens)-1
		if !slices.Equal(cache.Keys[i][at], x.lastKey) || !slices.Equal(cache.Vals[i][at], x.lastV) {
			t.Errorf("Full(%v, %d, %v): the last key and val are %v, %v", x.c, x.seed, x.tokens, cache.Keys[i][at], cache.Vals[i][at])
		}
	}
}

// P8.1: all numbers of the greatest model and the longest row, as one sum that was reckoned apart from this program.
func TestFullGreatest(t *testing.T) {
	c := config(64, 32, 4, 64, 4)
	tokens := make([]int, api.MaxTokens)
	for i := range tokens {
		tokens[i] = (i*i*7 + i) % 64
	}
	l, cache := answered(t, c, made(t, c, 12345), tokens)
	if !slices.Equal(l[:5], []api.Num{-160773, 128411, -37420, -93291, -113228}) {
		t.Errorf("the first likes: %v", l[:5])
	}
	sum := uint64(0)
	follow := func(row []api.Num) {
		for _, x := range row {
			sum = sum*31 + uint64(x)
		}
	}
	follow(l)
	for _, rows := range append(slices.Clone(cache.Keys), cache.Vals...) {
		for _, row := range rows {
			follow(row)
		}
	}
	if sum != 1054887435268861090 {
		t.Errorf("the sum: %d", sum)
	}
}

// P8.1: the Cache has Layers lists of a row a place, of Dim numbers each.
func TestCacheShape(t *testing.T) {
	for _, c := range sound() {
		for _, n := range []int{1, 5} {
			_, cache := answered(t, c, made(t, c, 1), prompt(c, n, 1))
			for _, l := range [][][][]api.Num{cache.Keys, cache.Vals} {
				if len(l) != c.Layers {
					t.Fatalf("%v: %d layers", c, len(l))
				}
				for _, rows := range l {
					if len(rows) != n || slices.ContainsFunc(rows, func(row []api.Num) bool { return len(row) != c.Dim }) {
						t.Errorf("%v: rows of %d tokens: %v", c, n, rows)
					}
				}
			}
		}
	}
}

// P8.1: the errors in their order, with nothing beside them.
func TestFullErrors(t *testing.T) {
	c := config(5, 4, 2, 3, 2)
	w := made(t, c, 1)
	worse := func(change func(*model.Weights)) model.Weights {
		x := model.Copy(w)
		change(&x)
		return x
	}
	long := slices.Repeat([]int{1}, api.MaxTokens+1)
	for i, x := range []struct {
		c      api.Config
		w      model.Weights
		tokens []int
		want   api.Errno
	}{
		{c, w, []int{1}, api.OK}, {c, w, nil, api.ErrNone}, {c, w, []int{}, api.ErrNone}, {c, w, long, api.ErrBig}, {c, w, long[1:], api.OK}, {c, w, []int{5}, api.ErrToken}, {c, w, []int{-1}, api.ErrToken}, {c, w, []int{0, 4, 5}, api.ErrToken}, {c, w, []int{5, 0, 0}, api.ErrToken}, {c, w, []int{math.MaxInt}, api.ErrToken}, {c, w, []int{math.MinInt}, api.ErrToken}, {c, w, append(slices.Clone(long), 5), api.ErrBig}, {c, w, append(long[2:], 5), api.ErrToken},
		// The configuration comes first.
		{config(1, 4, 2, 3, 2), w, nil, api.ErrArg}, {config(5, 4, 0, 3, 2), w, []int{9}, api.ErrArg}, {config(5, 0, 2, 3, 2), w, long, api.ErrArg}, {config(5, 4, 2, -3, 2), w, []int{1}, api.ErrArg}, {api.Config{}, model.Weights{}, nil, api.ErrArg},
		{config(65, 4, 2, 3, 2), w, nil, api.ErrBig}, {config(5, 33, 3, 3, 2), w, []int{9}, api.ErrBig}, {config(5, 4, 5, 3, 2), w, []int{1}, api.ErrBig}, {config(5, 4, 2, 65, 2), w, []int{1}, api.ErrBig}, {config(5, 4, 2, 3, 5), w, []int{1}, api.ErrBig},
		{config(5, 4, 3, 3, 2), w, nil, api.ErrForm}, {config(5, 4, 3, 3, 2), w, long, api.ErrForm},
		// Then the numbers.
		{c, model.Weights{}, []int{1}, api.ErrForm}, {c, model.Weights{}, nil, api.ErrForm}, {c, model.Weights{}, long, api.ErrForm}, {c, model.Weights{}, []int{5}, api.ErrForm}, {config(6, 4, 2, 3, 2), w, []int{6}, api.ErrForm}, {config(5, 4, 2, 3, 1), w, []int{1}, api.ErrForm}, {config(5, 4, 2, 3, 3), w, []int{1}, api.ErrForm}, {config(5, 4, 4, 3, 2), w, []int{1}, api.OK}, {config(5, 4, 4, 3, 2), w, []int{5}, api.ErrToken},
		{c, worse(func(x *model.Weights) { x.Last = x.Last[1:] }), nil, api.ErrForm}, {c, worse(func(x *model.Weights) { x.Out.Rows = 4 }), long, api.ErrForm}, {c, worse(func(x *model.Weights) { x.Embed.Data = nil }), []int{0}, api.ErrForm}, {c, worse(func(x *model.Weights) { x.Blocks = x.Blocks[:1] }), []int{7}, api.ErrForm}, {c, worse(func(x *model.Weights) { x.Blocks[1].Down.Cols = 9 }), []int{0}, api.ErrForm}, {c, worse(func(x *model.Weights) { x.Blocks[0].First = nil }), []int{0}, api.ErrForm},
	} {
		l, cache, e := pass.Full(x.c, x.w, x.tokens)
		if e != x.want {
			t.Errorf("%d: Full(%v, .., %d tokens): %d, not %d", i, x.c, len(x.tokens), e, x.want)
		}
		if e != api.OK && (len(l) != 0 || !nothing(cache)) {
			t.Errorf("%d: beside the error %d: %v, %v", i, e, l, cache)
		}
		if e == api.OK && (len(l) != x.c.Vocab || nothing(cache)) {
			t.Errorf("%d: %v, %v", i, l, cache)
		}
	}
}

// P8.1: what is liked behind one token hangs on it alone.
func TestFullOfOneToken(t *testing.T) {
	c := config(6, 4, 2, 5, 2)
	w := made(t, c, 8)
	for token := range c.Vocab {
		x, cache := answered(t, c, w, []int{token})
		other := model.Copy(w)
		for i := range other.Embed.Data {
			if i/c.Dim != token {
				other.Embed.Data[i] += 1000
			}
		}
		y, otherCache := answered(t, c, other, []int{token})
		if !slices.Equal(x, y) || !equal(cache, otherCache) {
			t.Errorf("token %d hangs on others", token)
		}
		for next := range token {
			if y, _ := answered(t, c, w, []int{next}); slices.Equal(x, y) {
				t.Errorf("tokens %d and %d are the same", token, next)
			}
		}
	}
}

// P8.2: the Cache of each beginning.
func TestBeginnings(t *testing.T) {
	for i, c := range sound() {
		for _, w := range []model.Weights{made(t, c, uint64(i)), steep(t, c, uint64(i))} {
			tokens := prompt(c, 12, i)
			_, cache := answered(t, c, w, tokens)
			for n := 1; n <= len(tokens); n++ {
				if _, part := answered(t, c, w, tokens[:n]); !equal(part, until(cache, n)) {
					t.Errorf("%v: the Cache of %d tokens isn't a beginning", c, n)
				}
			}
		}
	}
	c := config(8, 8, 4, 8, 2)
	w, tokens := made(t, c, 77), prompt(c, api.MaxTokens, 5)
	_, cache := answered(t, c, w, tokens)
	for n := 1; n <= len(tokens); n++ {
		if _, part := answered(t, c, w, tokens[:n]); !equal(part, until(cache, n)) {
			t.Errorf("the Cache of %d of %d tokens isn't a beginning", n, len(tokens))
		}
	}
}

// P8.2: other tokens behind change nothing ahead; those ahead are felt behind.
func TestOthersBehind(t *testing.T) {
	c := config(9, 6, 3, 7, 3)
	w, tokens := made(t, c, 21), prompt(c, 10, 3)
	_, cache := answered(t, c, w, tokens)
	for at := range tokens {
		other := slices.Clone(tokens)
		other[at] = (other[at] + 1) % c.Vocab
		_, now := answered(t, c, w, other)
		if !equal(until(now, at), until(cache, at)) {
			t.Errorf("token %d is felt ahead of it", at)
		}
		last := c.Layers - 1
		for i := at; i < len(tokens); i++ {
			if slices.Equal(now.Keys[last][i], cache.Keys[last][i]) || slices.Equal(now.Vals[last][i], cache.Vals[last][i]) {
				t.Errorf("token %d isn't felt at place %d", at, i)
			}
		}
	}
}

// walk goes place by place by Begin, One and Likes, and holds each of them against what Full says there.
func walk(t *testing.T, c api.Config, w model.Weights, tokens []int) {
	t.Helper()
	kept := pass.Cache{Keys: make([][][]api.Num, c.Layers), Vals: make([][][]api.Num, c.Layers)}
	for at, token := range tokens {
		row := pass.Begin(w, token, at)
		for i, b := range w.Blocks {
			next, k, v := pass.One(c, b, row, kept.Keys[i], kept.Vals[i])
			kept.Keys[i], kept.Vals[i] = append(kept.Keys[i], k), append(kept.Vals[i], v)
			row = next
		}
		x, cache := answered(t, c, w, tokens[:at+1])
		if l := pass.Likes(w, row); !slices.Equal(l, x) {
			t.Fatalf("%v, place %d: %v, not %v", c, at, l, x)
		}
		if !equal(kept, cache) {
			t.Fatalf("%v, place %d: another Cache", c, at)
		}
	}
}

// P8.3
func TestPlaceByPlace(t *testing.T) {
	for i, c := range sound() {
		walk(t, c, made(t, c, uint64(i)), prompt(c, 10, i))
		walk(t, c, steep(t, c, uint64(i)), prompt(c, 6, i))
	}
	c := config(8, 8, 2, 8, 2)
	walk(t, c, made(t, c, 78), prompt(c, api.MaxTokens, 6))
}

// P8.3: a row behind the Cache of a beginning.
func TestOneBehindCache(t *testing.T) {
	for i, c := range sound() {
		w, tokens := made(t, c, uint64(i)), prompt(c, 9, i)
		x, cache := answered(t, c, w, tokens)
		_, part := answered(t, c, w, tokens[:8])
		row := pass.Begin(w, tokens[8], 8)
		for i, b := range w.Blocks {
			next, k, v := pass.One(c, b, row, part.Keys[i], part.Vals[i])
			if !slices.Equal(k, cache.Keys[i][8]) || !slices.Equal(v, cache.Vals[i][8]) {
				t.Errorf("%v, layer %d: %v, %v", c, i, k, v)
			}
			row = next
		}
		if l := pass.Likes(w, row); !slices.Equal(l, x) {
			t.Errorf("%v: %v, not %v", c, l, x)
		}
	}
}

// P8.3: any row behind any keys and values: what Attend is asked with them, the row's own at the end.
func TestOneBehindAnything(t *testing.T) {
	ok := good(t)
	for i, c := range sound() {
		w := steep(t, c, uint64(i))
		b := w.Blocks[0]
		for _, n := range []int{0, 1, 5, api.MaxTokens - 1} {
			keys, vals := someRows(n, c.Dim, 1), someRows(n, c.Dim, 2)
			for _, x := range append(someRows(3, c.Dim, 3), slices.Repeat([]api.Num{least}, c.Dim), slices.Repeat([]api.Num{api.Most}, c.Dim), make([]api.Num, c.Dim)) {
				norm := ok(soft.Norm(x, b.First))
				wantK, wantV := ok(mat.Apply(b.K, norm)), ok(mat.Apply(b.V, norm))
				a := ok(heads.Attend(ok(mat.Apply(b.Q, norm)), slices.Concat(keys, [][]api.Num{wantK}), slices.Concat(vals, [][]api.Num{wantV}), c.Heads))
				y := ok(vec.Add(x, ok(mat.Apply(b.O, a))))
				want := ok(vec.Add(y, ok(mat.Apply(b.Down, vec.Rise(ok(mat.Apply(b.Up, ok(soft.Norm(y, b.Second)))))))))
				if row, k, v := pass.One(c, b, x, keys, vals); !slices.Equal(row, want) || !slices.Equal(k, wantK) || !slices.Equal(v, wantV) {
					t.Fatalf("One(%v, .., %v, %d keys): %v, %v, %v", c, x, n, row, k, v)
				}
			}
		}
	}
}

// someRows are n rows of numbers of all sizes.
func someRows(n, size, seed int) [][]api.Num {
	l := make([][]api.Num, n)
	x := uint32(seed)*2654435761 + 99
	for i := range l {
		for range size {
			x = x*1664525 + 1013904223
			l[i] = append(l[i], api.Num(int32(x)>>((x>>8)%28)))
		}
	}
	return l
}

// P8.3
func TestBegin(t *testing.T) {
	w := model.Weights{Embed: api.Mat{Rows: 3, Cols: 5, Data: []api.Num{0, 0, 0, 0, 0, 1, 2, 3, 4, 5, least, api.Most, -api.Most, least, api.Most - 4096}}}
	for _, c := range []struct {
		token, at int
		want      []api.Num
	}{
		{0, 0, []api.Num{0, 0, 0, 0, 0}}, {0, 1, []api.Num{0, 4096, 8192, 0, 4096}}, {0, 2, []api.Num{0, 8192, 16384, 0, 8192}}, {0, 127, []api.Num{0, 520192, 1040384, 0, 520192}},
		{1, 0, []api.Num{1, 2, 3, 4, 5}}, {1, 1, []api.Num{1, 4098, 8195, 4, 4101}}, {1, 10, []api.Num{1, 40962, 81923, 4, 40965}},
		// fix.Add keeps within its bounds, also where nothing is added.
		{2, 0, []api.Num{-api.Most, api.Most, -api.Most, -api.Most, api.Most - 4096}}, {2, 1, []api.Num{-api.Most, api.Most, -api.Most + 8192, -api.Most, api.Most}}, {2, 2, []api.Num{-api.Most, api.Most, -api.Most + 16384, -api.Most, api.Most}},
	} {
		if row := pass.Begin(w, c.token, c.at); !slices.Equal(row, c.want) {
			t.Errorf("Begin(.., %d, %d): %v, not %v", c.token, c.at, row, c.want)
		}
	}
	for i, c := range sound() {
		w := steep(t, c, uint64(i))
		for token := range c.Vocab {
			for _, at := range []int{0, 1, 2, 3, 63, 64, 126, 127} {
				if row := pass.Begin(w, token, at); !slices.Equal(row, begin(t, w, token, at)) {
					t.Errorf("%v: Begin(.., %d, %d): %v", c, token, at, row)
				}
			}
		}
	}
}

// P8.3
func TestLikes(t *testing.T) {
	// A mean of 4, and a part more: the row by 2 is 32767 and -32767 times 4, by gains of 1 and a half.
	w := model.Weights{Last: []api.Num{65536, 32768}, Out: api.Mat{Rows: 3, Cols: 2, Data: []api.Num{65536, 0, 0, 65536, 65536, 131072}}}
	if l := pass.Likes(w, []api.Num{131072, -131072}); !slices.Equal(l, []api.Num{65534, -32767, 0}) {
		t.Errorf("Likes: %v", l)
	}
	for i, c := range sound() {
		for _, w := range []model.Weights{made(t, c, uint64(i)), steep(t, c, uint64(i))} {
			for _, row := range append(someRows(5, c.Dim, 4), make([]api.Num, c.Dim), slices.Repeat([]api.Num{least}, c.Dim)) {
				if l := pass.Likes(w, row); !slices.Equal(l, likes(t, w, row)) {
					t.Errorf("%v: Likes(.., %v): %v, not %v", c, row, l, likes(t, w, row))
				}
			}
		}
	}
}

// oddMatrices are matrices that fit nothing, or only something else.
func oddMatrices() []api.Mat {
	return []api.Mat{
		{}, {Rows: 4, Cols: 4}, {Rows: -1, Cols: -1, Data: []api.Num{5}}, {Rows: math.MaxInt, Cols: math.MaxInt, Data: []api.Num{5, 6}}, {Rows: math.MinInt, Cols: 2}, {Rows: 0, Cols: 4, Data: []api.Num{1, 2, 3, 4}},
		{Rows: 1, Cols: 1, Data: []api.Num{7}}, {Rows: 1, Cols: 4, Data: []api.Num{1, 2, 3, 4}}, {Rows: 4, Cols: 1, Data: []api.Num{1, 2, 3, 4}}, {Rows: 4, Cols: 3, Data: make([]api.Num, 12)}, {Rows: 5, Cols: 4, Data: make([]api.Num, 20)}, {Rows: 128, Cols: 128, Data: make([]api.Num, 128*128)}, {Rows: 129, Cols: 1, Data: make([]api.Num, 129)},
	}
}

// oddRows are rows of lengths that fit nothing, or only something else.
func oddRows() [][]api.Num {
	return [][]api.Num{nil, {}, {1}, {least, api.Most, 0}, make([]api.Num, 5), make([]api.Num, 32), make([]api.Num, 33), make([]api.Num, 128), make([]api.Num, 5000)}
}

// oddBlocks are Blocks of which each part in turn doesn't fit.
func oddBlocks(b model.Block) []model.Block {
	l := []model.Block{{}, b}
	for _, m := range oddMatrices() {
		for i := range 6 {
			x := b
			*[]*api.Mat{&x.Q, &x.K, &x.V, &x.O, &x.Up, &x.Down}[i] = m
			l = append(l, x)
		}
		l = append(l, model.Block{First: b.First, Q: m, K: m, V: m, O: m, Second: b.Second, Up: m, Down: m})
	}
	for _, row := range oddRows() {
		first, second := b, b
		first.First, second.Second = row, row
		l = append(l, first, second)
	}
	return l
}

// oddKeys are lists of keys or values that fit nothing, or only something else.
func oddKeys() [][][]api.Num {
	l := [][][]api.Num{nil, {}, {nil}, {{}}, {{1, 2, 3, 4}}, {{1, 2, 3}}, {{1, 2, 3, 4}, nil, {5}}, {{1, 2, 3, 4, 5}, {1, 2, 3, 4}}, make([][]api.Num, 127), make([][]api.Num, 128), make([][]api.Num, 5000), someRows(127, 4, 1), someRows(128, 4, 1), someRows(1000, 4, 1)}
	return append(l, oddRows())
}

// P8.3, P8.4: at what nothing is promised of, One doesn't panic, nor change what it is handed.
func TestOneAtAnything(t *testing.T) {
	c := config(5, 4, 2, 3, 1)
	b := made(t, c, 1).Blocks[0]
	x := []api.Num{1, 2, 3, 4}
	for _, block := range oddBlocks(b) {
		for _, row := range append(oddRows(), x) {
			was := slices.Clone(row)
			pass.One(c, block, row, [][]api.Num{x}, [][]api.Num{x})
			pass.One(c, block, row, nil, nil)
			if !slices.Equal(row, was) {
				t.Fatalf("the row was changed")
			}
		}
	}
	for _, keys := range oddKeys() {
		for _, vals := range oddKeys() {
			wasKeys, wasVals := each(keys, slices.Clone[[]api.Num]), each(vals, slices.Clone[[]api.Num])
			for _, other := range []api.Config{c, {}, {Heads: -1}, {Heads: math.MinInt}, {Heads: math.MaxInt}, {Heads: 1}, {Heads: 3}, {Heads: 4}, {Heads: 5}} {
				pass.One(other, b, x, keys, vals)
				pass.One(other, model.Block{}, x, keys, vals)
				pass.One(other, model.Block{}, nil, keys, vals)
			}
			if !alike(keys, wasKeys) || !alike(vals, wasVals) {
				t.Fatalf("keys or vals were changed")
			}
		}
	}
}

// P8.3: at what nothing is promised of, Begin and Likes don't panic.
func TestBeginAndLikesAtAnything(t *testing.T) {
	c := config(5, 4, 2, 3, 1)
	w := made(t, c, 1)
	ends := []int{math.MinInt, math.MinInt + 1, -1 << 32, -129, -1, 0, 1, 4, 5, 6, 63, 64, 127, 128, 129, 1 << 32, math.MaxInt - 1, math.MaxInt}
	for _, m := range append(oddMatrices(), w.Embed) {
		for _, token := range ends {
			for _, at := range ends {
				pass.Begin(model.Weights{Embed: m}, token, at)
				pass.Begin(model.Weights{}, token, at)
			}
		}
	}
	for _, m := range append(oddMatrices(), w.Out) {
		for _, gains := range append(oddRows(), w.Last) {
			for _, row := range append(oddRows(), []api.Num{1, 2, 3, 4}) {
				pass.Likes(model.Weights{Out: m, Last: gains}, row)
				pass.Likes(model.Weights{}, row)
			}
		}
	}
}

// roomy is the same model with spare room behind each list, filled with 77.
func roomy(w model.Weights) model.Weights {
	w.Blocks = append(slices.Clone(w.Blocks), model.Block{}, model.Block{})[:len(w.Blocks)]
	for _, l := range lists(&w) {
		*l = roomyRow(*l)
	}
	return w
}

// roomyRow is the same row with spare room behind it, filled with 77.
func roomyRow(row []api.Num) []api.Num {
	return append(slices.Clone(row), 77, 77, 77)[:len(row)]
}

// roomyRows are the same rows with spare room behind the list and behind each row, filled with 77.
func roomyRows(rows [][]api.Num) [][]api.Num {
	return append(each(rows, roomyRow), []api.Num{77}, []api.Num{77})[:len(rows)]
}

// rowStays tells whether a roomy row, and the room behind it, is as it was.
func rowStays(row, was []api.Num) bool {
	return slices.Equal(row, was) && slices.Equal(row[len(row):len(row)+3], []api.Num{77, 77, 77})
}

// rowsStay tells whether roomy rows, and the room behind them, are as they were.
func rowsStay(rows, was [][]api.Num) bool {
	return slices.EqualFunc(rows, was, rowStays) && alike(rows[len(rows):len(rows)+2], [][]api.Num{{77}, {77}})
}

// stays tells whether a roomy model, and the room behind its lists, is as it was.
func stays(w, was model.Weights) bool {
	same := func(a, b *[]api.Num) bool { return rowStays(*a, *b) }
	room := w.Blocks[len(w.Blocks) : len(w.Blocks)+2]
	for i := range room {
		if slices.ContainsFunc(listsOf(&room[i]), func(l *[]api.Num) bool { return len(*l) > 0 }) {
			return false
		}
	}
	return len(w.Blocks) == len(was.Blocks) && slices.EqualFunc(lists(&w), lists(&was), same)
}

// rowsOf are all rows of an answer.
func rowsOf(x []api.Num, c pass.Cache) [][]api.Num {
	l := [][]api.Num{x}
	for _, rows := range append(slices.Clone(c.Keys), c.Vals...) {
		l = append(l, rows...)
	}
	return l
}

// overwrite changes all rows, with the room behind them, and tells whether no two share memory.
func overwrite(rows [][]api.Num) bool {
	for k, row := range rows {
		row = row[:cap(row)]
		for i := range row {
			row[i] = api.Num(k)
		}
	}
	for k, row := range rows {
		if slices.ContainsFunc(row[:cap(row)], func(x api.Num) bool { return x != api.Num(k) }) {
			return false
		}
	}
	return true
}

// overwriteLists puts other lists into a Cache, also into the room behind its own.
func overwriteLists(c pass.Cache) {
	for _, l := range [][][][]api.Num{c.Keys, c.Vals} {
		l = l[:cap(l)]
		for i, rows := range l {
			rows = rows[:cap(rows)]
			for j := range rows {
				rows[j] = []api.Num{4711}
			}
			l[i] = [][]api.Num{{4711}}
		}
	}
}

// P8.4: Full changes nothing that it is handed, and its answers are new.
func TestFullKeepsApart(t *testing.T) {
	for i, c := range sound() {
		was := made(t, c, uint64(i))
		w := roomy(was)
		wasTokens := prompt(c, 5, i)
		tokens := append(slices.Clone(wasTokens), 77, 77)[:5]
		x, cache := answered(t, c, w, tokens)
		y, other := answered(t, c, w, tokens)
		want, wantCache := full(t, c, was, wasTokens)
		if !overwrite(rowsOf(x, cache)) {
			t.Errorf("%v: parts of one answer share memory", c)
		}
		overwriteLists(cache)
		if !slices.Equal(y, want) || !equal(other, wantCache) {
			t.Errorf("%v: answers share memory", c)
		}
		if !stays(w, was) || !slices.Equal(tokens[:7], append(slices.Clone(wasTokens), 77, 77)) {
			t.Errorf("%v: what was handed in was changed", c)
		}
		if x, cache := answered(t, c, w, tokens); !slices.Equal(x, want) || !equal(cache, wantCache) {
			t.Errorf("%v: not the same again", c)
		}
	}
}

// P8.4: a list of Keys isn't that of Vals, nor that of another layer.
func TestCacheListsApart(t *testing.T) {
	c := config(5, 4, 2, 6, 3)
	_, cache := answered(t, c, made(t, c, 1), []int{1, 2, 3})
	all := append(slices.Clone(cache.Keys), cache.Vals...)
	for k, rows := range all {
		rows = rows[:cap(rows)]
		for j := range rows {
			rows[j] = []api.Num{api.Num(k)}
		}
	}
	for k, rows := range all {
		if !alike(rows, slices.Repeat([][]api.Num{{api.Num(k)}}, 3)) {
			t.Errorf("list %d shares memory with another one", k)
		}
	}
	_, cache = answered(t, c, made(t, c, 1), []int{1, 2, 3})
	keys := cache.Keys[:cap(cache.Keys)]
	for i := range keys {
		keys[i] = nil
	}
	for i, rows := range cache.Vals {
		if len(rows) != 3 {
			t.Errorf("layer %d: Keys and Vals share memory", i)
		}
	}
}

// P8.4: One changes nothing that it is handed, and its answers are new.
func TestOneKeepsApart(t *testing.T) {
	for i, c := range sound() {
		was := made(t, c, uint64(i))
		w := roomy(was)
		wasX, wasKeys, wasVals := someRows(1, c.Dim, 1), someRows(6, c.Dim, 2), someRows(6, c.Dim, 3)
		x, keys, vals := roomyRows(wasX), roomyRows(wasKeys), roomyRows(wasVals)
		row1, k1, v1 := pass.One(c, w.Blocks[0], x[0], keys, vals)
		row2, k2, v2 := pass.One(c, w.Blocks[0], x[0], keys, vals)
		want := each([][]api.Num{row1, k1, v1}, slices.Clone[[]api.Num])
		if !overwrite([][]api.Num{row1, k1, v1}) {
			t.Errorf("%v: parts of one answer share memory", c)
		}
		if !alike([][]api.Num{row2, k2, v2}, want) {
			t.Errorf("%v: answers share memory", c)
		}
		if !stays(w, was) || !rowsStay(x, wasX) || !rowsStay(keys, wasKeys) || !rowsStay(vals, wasVals) {
			t.Errorf("%v: what was handed in was changed", c)
		}
		row3, k3, v3 := pass.One(c, w.Blocks[0], x[0], keys, vals)
		if !alike([][]api.Num{row3, k3, v3}, want) {
			t.Errorf("%v: not the same again", c)
		}
	}
}

// P8.4: Begin and Likes change nothing that they are handed, and their answers are new.
func TestBeginAndLikesKeepApart(t *testing.T) {
	for i, c := range sound() {
		was := made(t, c, uint64(i))
		w := roomy(was)
		wasX := someRows(1, c.Dim, 1)
		x := roomyRows(wasX)
		for _, ask := range []func() []api.Num{
			func() []api.Num { return pass.Begin(w, c.Vocab-1, 0) },
			func() []api.Num { return pass.Begin(w, 0, 3) },
			func() []api.Num { return pass.Likes(w, x[0]) },
		} {
			first, second := ask(), ask()
			want := slices.Clone(first)
			overwrite([][]api.Num{first})
			if !slices.Equal(second, want) || !slices.Equal(ask(), want) {
				t.Errorf("%v: answers share memory", c)
			}
		}
		if !stays(w, was) || !rowsStay(x, wasX) {
			t.Errorf("%v: what was handed in was changed", c)
		}
	}
}

// P8.1, P8.4: a model's parts may be one and the same memory.
func TestSharedNumbers(t *testing.T) {
	c := config(4, 4, 2, 4, 2)
	w := made(t, c, 9)
	b := &w.Blocks[0]
	b.K, b.V, b.O, b.Up, b.Down, b.Second = b.Q, b.Q, b.Q, b.Q, b.Q, b.First
	w.Blocks[1] = *b
	w.Embed, w.Out, w.Last = b.Q, b.Q, b.First
	tokens := []int{3, 0, 3, 2}
	want, wantCache := full(t, c, model.Copy(w), tokens)
	x, cache := answered(t, c, w, tokens)
	if !slices.Equal(x, want) || !equal(cache, wantCache) {
		t.Errorf("%v, not %v", x, want)
	}
	if !overwrite(rowsOf(x, cache)) {
		t.Errorf("parts of one answer share memory")
	}
}
