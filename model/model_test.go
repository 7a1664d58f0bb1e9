package model_test

import (
	"math"
	"math/big"
	"slices"
	"testing"

	"tiller/api"
	"tiller/model"
)

const least = -api.Most - 1

// gamma is by how much the state grows ahead of each made number.
const gamma = 0x9e3779b97f4a7c15

// config is a configuration, its parts in the order of their names in the chapter.
func config(vocab, dim, heads, hidden, layers int) api.Config {
	return api.Config{Vocab: vocab, Dim: dim, Heads: heads, Hidden: hidden, Layers: layers}
}

// parts are a configuration's parts, to be changed.
func parts(c *api.Config) []*int {
	return []*int{&c.Vocab, &c.Dim, &c.Heads, &c.Hidden, &c.Layers}
}

// Least and greatest of each part, in that order.
var (
	lowest  = [5]int{2, 1, 1, 1, 1}
	highest = [5]int{64, 32, 4, 64, 4}
)

// sound are configurations that have no error.
func sound() []api.Config {
	return []api.Config{
		config(2, 1, 1, 1, 1), config(3, 2, 1, 5, 1), config(5, 6, 3, 4, 2), config(7, 4, 4, 3, 3), config(4, 12, 2, 12, 1), config(9, 9, 3, 9, 4),
		config(64, 1, 1, 64, 1), config(2, 32, 4, 1, 4), config(32, 32, 4, 32, 2), config(64, 32, 4, 64, 4), config(64, 31, 1, 64, 4), config(33, 30, 3, 63, 2),
	}
}

// made is a model that Make makes without an error.
func made(t *testing.T, c api.Config, seed uint64) model.Weights {
	t.Helper()
	w, e := model.Make(c, seed)
	if e != api.OK {
		t.Fatalf("Make(%v, %d): %d", c, seed, e)
	}
	return w
}

// matrices are all of a model's matrices, to be changed.
func matrices(w *model.Weights) []*api.Mat {
	l := []*api.Mat{&w.Embed}
	for i := range w.Blocks {
		b := &w.Blocks[i]
		l = append(l, &b.Q, &b.K, &b.V, &b.O, &b.Up, &b.Down)
	}
	return append(l, &w.Out)
}

// gains are all of a model's rows of gains, to be changed.
func gains(w *model.Weights) []*[]api.Num {
	var l []*[]api.Num
	for i := range w.Blocks {
		l = append(l, &w.Blocks[i].First, &w.Blocks[i].Second)
	}
	return append(l, &w.Last)
}

// lists are all of a model's rows and matrices' data, to be changed.
func lists(w *model.Weights) []*[]api.Num {
	l := gains(w)
	for _, m := range matrices(w) {
		l = append(l, &m.Data)
	}
	return l
}

// equal tells whether two models are the same, number by number.
func equal(a, b model.Weights) bool {
	same := func(x, y *[]api.Num) bool { return slices.Equal(*x, *y) }
	sides := func(x, y *api.Mat) bool { return x.Rows == y.Rows && x.Cols == y.Cols }
	return len(a.Blocks) == len(b.Blocks) && slices.EqualFunc(lists(&a), lists(&b), same) && slices.EqualFunc(matrices(&a), matrices(&b), sides)
}

// nothing tells whether a model is the zero value.
func nothing(w model.Weights) bool {
	return len(w.Blocks) == 0 && equal(w, model.Weights{})
}

// P6.1: each part at its least and greatest, one below and one above, with all others at their least or greatest.
func TestShapeBounds(t *testing.T) {
	for i := range lowest {
		for _, base := range [][5]int{lowest, highest} {
			for at, want := range map[int]api.Errno{
				lowest[i]: api.OK, highest[i]: api.OK,
				lowest[i] - 1: api.ErrArg, highest[i] + 1: api.ErrBig,
				0: api.ErrArg, -1: api.ErrArg, math.MinInt: api.ErrArg, math.MaxInt: api.ErrBig, 1 << 32: api.ErrBig, 1<<32 + 4: api.ErrBig, 1000: api.ErrBig,
			} {
				values := base
				values[i] = at
				if want == api.OK && values[1]%values[2] != 0 {
					want = api.ErrForm
				}
				c := config(values[0], values[1], values[2], values[3], values[4])
				if e := model.Shape(c); e != want {
					t.Errorf("Shape(%v): %d, not %d", c, e, want)
				}
			}
		}
	}
}

// P6.1
func TestShape(t *testing.T) {
	for _, c := range sound() {
		if e := model.Shape(c); e != api.OK {
			t.Errorf("Shape(%v): %d", c, e)
		}
	}
	for dim := 1; dim <= 32; dim++ {
		for heads := 1; heads <= 4; heads++ {
			want := api.ErrForm
			for n := range 33 {
				if n*heads == dim {
					want = api.OK
				}
			}
			if e := model.Shape(config(2, dim, heads, 1, 1)); e != want {
				t.Errorf("Shape with %d by %d: %d", dim, heads, e)
			}
		}
	}
	if e := model.Shape(config(2, 4, 3, 1, 1)); e != api.ErrForm { // the chapter's
		t.Errorf("4 by 3: %d", e)
	}
}

// wrongShapes are configurations with several errors, and the one that is named first.
func wrongShapes() map[api.Config]api.Errno {
	return map[api.Config]api.Errno{
		{}:                       api.ErrArg,
		config(1, 33, 1, 1, 1):   api.ErrArg,
		config(65, 0, 1, 1, 1):   api.ErrArg,
		config(65, 4, 0, 1, 1):   api.ErrArg,
		config(65, 4, 3, 0, 1):   api.ErrArg,
		config(2, 4, 5, 65, 0):   api.ErrArg,
		config(1, 4, 3, 1, 5):    api.ErrArg,
		config(2, 4, 3, 1, 0):    api.ErrArg,
		config(2, 4, 3, 0, 1):    api.ErrArg,
		config(2, 0, 3, 1, 1):    api.ErrArg,
		config(2, 4, -3, 1, 1):   api.ErrArg,
		config(65, 4, 3, 1, 1):   api.ErrBig,
		config(2, 34, 4, 1, 1):   api.ErrBig,
		config(2, 4, 5, 1, 1):    api.ErrBig,
		config(2, 4, 3, 65, 1):   api.ErrBig,
		config(2, 4, 3, 1, 5):    api.ErrBig,
		config(2, 5, 2, 1, 1):    api.ErrForm,
		config(64, 31, 4, 64, 4): api.ErrForm,
		config(2, 1, 4, 1, 1):    api.ErrForm,
		config(2, 3, 4, 1, 1):    api.ErrForm,
		config(2, 32, 3, 1, 1):   api.ErrForm,
	}
}

// P6.1, P6.2: the error of Shape comes first, whatever the numbers, and nothing stands beside it.
func TestErrorsOfShape(t *testing.T) {
	fitting := made(t, config(2, 4, 2, 1, 1), 1)
	for c, want := range wrongShapes() {
		if e := model.Shape(c); e != want {
			t.Errorf("Shape(%v): %d, not %d", c, e, want)
		}
		for _, w := range []model.Weights{{}, fitting, {Blocks: make([]model.Block, 7)}} {
			if e := model.Check(c, w); e != want {
				t.Errorf("Check(%v, ..): %d, not %d", c, e, want)
			}
		}
		for _, seed := range []uint64{0, 1, math.MaxUint64} {
			if w, e := model.Make(c, seed); e != want || !nothing(w) {
				t.Errorf("Make(%v, %d): %v, %d, not %d", c, seed, w, e, want)
			}
		}
	}
}

// P6.1: numbers that fit, whatever they are.
func TestCheckFits(t *testing.T) {
	for _, c := range sound() {
		w := made(t, c, 5)
		if e := model.Check(c, w); e != api.OK {
			t.Errorf("Check(%v, ..): %d", c, e)
		}
		for _, l := range lists(&w) {
			for i := range *l {
				(*l)[i] = []api.Num{least, 0, api.Most}[i%3]
			}
		}
		if e := model.Check(c, w); e != api.OK {
			t.Errorf("Check(%v, ..) of numbers at their bounds: %d", c, e)
		}
	}
}

// otherMatrices are matrices that have other sides than m, or other data than its sides ask for.
func otherMatrices(m api.Mat) []api.Mat {
	n := len(m.Data)
	data := func(n int) []api.Num { return make([]api.Num, max(n, 0)) }
	l := []api.Mat{
		{}, {Rows: m.Rows, Cols: m.Cols}, {Rows: m.Rows, Cols: m.Cols, Data: data(n - 1)}, {Rows: m.Rows, Cols: m.Cols, Data: data(n + 1)}, {Rows: m.Rows, Cols: m.Cols, Data: data(2 * n)},
		{Rows: m.Rows + 1, Cols: m.Cols, Data: data(n)}, {Rows: m.Rows - 1, Cols: m.Cols, Data: data(n)}, {Rows: m.Rows, Cols: m.Cols + 1, Data: data(n)}, {Rows: m.Rows, Cols: m.Cols - 1, Data: data(n)},
		{Rows: m.Rows + 1, Cols: m.Cols, Data: data((m.Rows + 1) * m.Cols)}, {Rows: m.Rows - 1, Cols: m.Cols, Data: data((m.Rows - 1) * m.Cols)},
		{Rows: m.Rows, Cols: m.Cols + 1, Data: data(m.Rows * (m.Cols + 1))}, {Rows: m.Rows, Cols: m.Cols - 1, Data: data(m.Rows * (m.Cols - 1))},
		{Rows: -m.Rows, Cols: -m.Cols, Data: data(n)}, {Rows: math.MinInt, Cols: math.MaxInt, Data: data(n)}, {Rows: 0, Cols: 0, Data: data(n)}, {Rows: 129, Cols: m.Cols, Data: data(129 * m.Cols)},
	}
	if m.Rows != m.Cols {
		l = append(l, api.Mat{Rows: m.Cols, Cols: m.Rows, Data: data(n)})
	}
	if n > 1 && m.Rows != 1 {
		l = append(l, api.Mat{Rows: 1, Cols: n, Data: data(n)})
	}
	if n > 1 && m.Cols != 1 {
		l = append(l, api.Mat{Rows: n, Cols: 1, Data: data(n)})
	}
	return l
}

// P6.1: one matrix doesn't fit.
func TestCheckMatrices(t *testing.T) {
	for _, c := range sound() {
		w := made(t, c, 6)
		for i, m := range matrices(&w) {
			was := *m
			for _, other := range otherMatrices(was) {
				*m = other
				if e := model.Check(c, w); e != api.ErrForm {
					t.Errorf("Check(%v, ..), matrix %d of %d rows, %d columns, %d numbers: %d", c, i, other.Rows, other.Cols, len(other.Data), e)
				}
			}
			*m = was
		}
		if e := model.Check(c, w); e != api.OK {
			t.Errorf("Check(%v, ..): %d", c, e)
		}
	}
}

// P6.1: one row of gains doesn't fit.
func TestCheckGains(t *testing.T) {
	for _, c := range sound() {
		w := made(t, c, 7)
		for i, l := range gains(&w) {
			was := *l
			for _, n := range []int{0, c.Dim - 1, c.Dim + 1, 2 * c.Dim, 5000} {
				*l = make([]api.Num, n)
				if e := model.Check(c, w); e != api.ErrForm {
					t.Errorf("Check(%v, ..), %d gains in row %d: %d", c, n, i, e)
				}
			}
			*l = nil
			if e := model.Check(c, w); e != api.ErrForm {
				t.Errorf("Check(%v, ..), no gains in row %d: %d", c, i, e)
			}
			*l = was
		}
	}
}

// P6.1: a Block is wanting, too many or empty.
func TestCheckBlocks(t *testing.T) {
	for _, c := range sound() {
		w := made(t, c, 8)
		was := w.Blocks
		for _, blocks := range [][]model.Block{nil, {}, was[:len(was)-1], append(slices.Clone(was), was[0]), append(slices.Clone(was), model.Block{}), make([]model.Block, len(was)), append(slices.Clone(was[1:]), model.Block{}), append([]model.Block{{}}, was[1:]...)} {
			w.Blocks = blocks
			if e := model.Check(c, w); e != api.ErrForm {
				t.Errorf("Check(%v, ..), %d Blocks: %d", c, len(blocks), e)
			}
		}
		if e := model.Check(c, model.Weights{}); e != api.ErrForm {
			t.Errorf("Check(%v, nothing): %d", c, e)
		}
	}
}

// P6.1: numbers of one configuration don't fit another, but for its Heads.
func TestCheckOthers(t *testing.T) {
	for _, c := range sound() {
		w := made(t, c, 9)
		for i := range parts(&c) {
			for _, by := range []int{-1, 1} {
				other := c
				*parts(&other)[i] += by
				want := model.Shape(other)
				if want == api.OK && i != 2 {
					want = api.ErrForm
				}
				if e := model.Check(other, w); e != want {
					t.Errorf("Check(%v, ..) of numbers for %v: %d, not %d", other, c, e, want)
				}
			}
		}
	}
	w := made(t, config(4, 12, 1, 5, 2), 9)
	for heads := 1; heads <= 4; heads++ {
		if e := model.Check(config(4, 12, heads, 5, 2), w); e != api.OK {
			t.Errorf("%d heads: %d", heads, e)
		}
	}
}

// stream is the chapter's rule for made numbers, in numbers without bounds.
type stream struct {
	state *big.Int
}

// upTo64 is x modulo 2^64.
func upTo64(x *big.Int) *big.Int {
	return new(big.Int).Mod(x, new(big.Int).Lsh(big.NewInt(1), 64))
}

// spread is (x xor x shifted right by n) times k.
func spread(x *big.Int, n uint, k uint64) *big.Int {
	y := new(big.Int).Xor(x, new(big.Int).Rsh(x, n))
	return upTo64(y.Mul(y, new(big.Int).SetUint64(k)))
}

// number is the next made number for the bound m, and what is added to it.
func (s *stream) number(m, plus int64) api.Num {
	s.state = upTo64(new(big.Int).Add(s.state, new(big.Int).SetUint64(gamma)))
	x := spread(s.state, 30, 0xbf58476d1ce4e5b9)
	x = spread(x, 27, 0x94d049bb133111eb)
	x = spread(x, 31, 1)
	n := new(big.Int).Rsh(x, 32)
	n.Mul(n, big.NewInt(2*m))
	n.Rsh(n, 32)
	return api.Num(n.Int64() - m + plus)
}

// follow holds a row of made numbers against the stream.
func (s *stream) follow(t *testing.T, name string, l []api.Num, n int, m, plus int64) {
	t.Helper()
	if len(l) != n {
		t.Fatalf("%s: %d numbers, not %d", name, len(l), n)
	}
	for i, x := range l {
		if want := s.number(m, plus); x != want {
			t.Fatalf("%s, place %d: %d, not %d", name, i, x, want)
		}
	}
}

// matrix holds a made matrix against the stream.
func (s *stream) matrix(t *testing.T, name string, x api.Mat, rows, cols int, m int64) {
	t.Helper()
	if x.Rows != rows || x.Cols != cols {
		t.Fatalf("%s: %d rows, %d columns", name, x.Rows, x.Cols)
	}
	s.follow(t, name, x.Data, rows*cols, m, 0)
}

// checkMade holds all that Make makes against the stream, in the chapter's order.
func checkMade(t *testing.T, c api.Config, seed uint64) {
	t.Helper()
	w := made(t, c, seed)
	s := stream{new(big.Int).SetUint64(seed)}
	s.matrix(t, "Embed", w.Embed, c.Vocab, c.Dim, 131072)
	if len(w.Blocks) != c.Layers {
		t.Fatalf("%d Blocks, not %d", len(w.Blocks), c.Layers)
	}
	for _, b := range w.Blocks {
		s.follow(t, "First", b.First, c.Dim, 16384, 65536)
		s.matrix(t, "Q", b.Q, c.Dim, c.Dim, 65536)
		s.matrix(t, "K", b.K, c.Dim, c.Dim, 65536)
		s.matrix(t, "V", b.V, c.Dim, c.Dim, 65536)
		s.matrix(t, "O", b.O, c.Dim, c.Dim, 65536)
		s.follow(t, "Second", b.Second, c.Dim, 16384, 65536)
		s.matrix(t, "Up", b.Up, c.Hidden, c.Dim, 65536)
		s.matrix(t, "Down", b.Down, c.Dim, c.Hidden, 65536)
	}
	s.follow(t, "Last", w.Last, c.Dim, 16384, 65536)
	s.matrix(t, "Out", w.Out, c.Vocab, c.Dim, 65536)
}

// P6.2: number by number.
func TestMake(t *testing.T) {
	for _, c := range sound() {
		for _, seed := range []uint64{0, 1, 2, 3, 4711, 1 << 32, 1 << 63, math.MaxUint64 - 1, math.MaxUint64} {
			checkMade(t, c, seed)
		}
	}
	for seed := range uint64(200) {
		checkMade(t, config(3, 2, 2, 3, 2), seed)
		checkMade(t, config(2, 1, 1, 1, 1), -seed)
	}
}

// P6.2: numbers that were reckoned apart from this program, from the well-known row of the seed 0.
func TestMakeFirstNumbers(t *testing.T) {
	w := made(t, config(2, 1, 1, 1, 1), 0)
	if !slices.Equal(w.Embed.Data, []api.Num{100482, -17950}) { // the chapter's
		t.Errorf("Embed: %v", w.Embed)
	}
	// 06c45d18, f88bb8a8, 1b39896a are the upper halves that follow.
	if b := w.Blocks[0]; !slices.Equal(b.First, []api.Num{65536 - 16384 + 0x06c45d18>>17}) || !slices.Equal(b.Q.Data, []api.Num{0xf88bb8a8>>15 - 65536}) || !slices.Equal(b.K.Data, []api.Num{0x1b39896a>>15 - 65536}) {
		t.Errorf("the Block: %v", b)
	}
}

// unspread is the x of which spread makes y.
func unspread(y uint64, n uint, k uint64) uint64 {
	inverse := k // right in its last three bits, in twice as many each time
	for range 5 {
		inverse *= 2 - k*inverse
	}
	y *= inverse
	x := y
	for range 64 / n {
		x = y ^ x>>n
	}
	return x
}

// seedOf is the seed of which the number at a place is made from x.
func seedOf(x uint64, place int) uint64 {
	x = unspread(x, 31, 1)
	x = unspread(x, 27, 0x94d049bb133111eb)
	x = unspread(x, 30, 0xbf58476d1ce4e5b9)
	return x - gamma*uint64(place+1)
}

// P6.2: the least and the greatest number of each kind, which are met once in 2^32 times.
func TestMakeEdges(t *testing.T) {
	c := config(3, 2, 1, 2, 1)
	for _, place := range []struct {
		name string
		at   int
		from func(model.Weights) api.Num
		m    api.Num
		plus api.Num
	}{
		{"Embed", 0, func(w model.Weights) api.Num { return w.Embed.Data[0] }, 131072, 0},
		{"Embed, the last", 5, func(w model.Weights) api.Num { return w.Embed.Data[5] }, 131072, 0},
		{"First", 6, func(w model.Weights) api.Num { return w.Blocks[0].First[0] }, 16384, 65536},
		{"Q", 8, func(w model.Weights) api.Num { return w.Blocks[0].Q.Data[0] }, 65536, 0},
		{"Second", 24, func(w model.Weights) api.Num { return w.Blocks[0].Second[0] }, 16384, 65536},
		{"Up", 26, func(w model.Weights) api.Num { return w.Blocks[0].Up.Data[0] }, 65536, 0},
		{"Down, the last", 33, func(w model.Weights) api.Num { return w.Blocks[0].Down.Data[3] }, 65536, 0},
		{"Last", 34, func(w model.Weights) api.Num { return w.Last[0] }, 16384, 65536},
		{"Out, the last", 41, func(w model.Weights) api.Num { return w.Out.Data[5] }, 65536, 0},
	} {
		for x, want := range map[uint64]api.Num{
			0: -place.m, math.MaxUint64: place.m - 1, math.MaxUint32: -place.m, math.MaxUint32 << 32: place.m - 1,
			1 << 63: 0, 1<<63 - 1: -1,
		} {
			seed := seedOf(x, place.at)
			if n := place.from(made(t, c, seed)); n != want+place.plus {
				t.Errorf("%s of %x: %d, not %d", place.name, x, n, want+place.plus)
			}
			checkMade(t, c, seed)
		}
	}
}

// P6.1
func TestPrompt(t *testing.T) {
	c := config(64, 4, 2, 3, 1)
	small := config(2, 4, 2, 3, 1)
	long := func(n, at, token int) []int {
		l := slices.Repeat([]int{63}, n)
		l[at] = token
		return l
	}
	for _, x := range []struct {
		c      api.Config
		tokens []int
		want   api.Errno
	}{
		{c, nil, api.ErrNone}, {c, []int{}, api.ErrNone}, {small, nil, api.ErrNone},
		{small, []int{0, 2}, api.ErrToken}, // the chapter's
		{c, []int{0}, api.OK}, {c, []int{63}, api.OK}, {c, []int{64}, api.ErrToken}, {c, []int{-1}, api.ErrToken}, {c, []int{0, 63, 5, 5, 0}, api.OK}, {c, []int{math.MaxInt}, api.ErrToken}, {c, []int{math.MinInt}, api.ErrToken}, {c, []int{1 << 32}, api.ErrToken},
		{small, []int{0}, api.OK}, {small, []int{1}, api.OK}, {small, []int{2}, api.ErrToken}, {small, []int{-1}, api.ErrToken}, {small, []int{0, 1, 1, 0}, api.OK},
		{c, []int{0, 0, 64}, api.ErrToken}, {c, []int{-1, 0, 0}, api.ErrToken}, {c, []int{0, -1, 0}, api.ErrToken},
		{c, long(127, 0, 0), api.OK}, {c, long(128, 0, 0), api.OK}, {c, long(129, 0, 0), api.ErrBig}, {c, long(1000, 0, 0), api.ErrBig},
		{c, long(128, 0, 64), api.ErrToken}, {c, long(128, 127, 64), api.ErrToken}, {c, long(128, 127, -1), api.ErrToken}, {c, long(129, 0, 64), api.ErrBig}, {c, long(129, 128, -1), api.ErrBig}, {small, long(129, 5, 7), api.ErrBig},
	} {
		if e := model.Prompt(x.c, x.tokens); e != x.want {
			t.Errorf("Prompt(%v, %v): %d, not %d", x.c, x.tokens, e, x.want)
		}
	}
}

// P6.1: a configuration isn't judged by Prompt; of it only Vocab is asked.
func TestPromptOfAnyShape(t *testing.T) {
	for _, x := range []struct {
		vocab, token int
		want         api.Errno
	}{{0, 0, api.ErrToken}, {-5, 0, api.ErrToken}, {-5, -6, api.ErrToken}, {math.MinInt, -1, api.ErrToken}, {1, 0, api.OK}, {1, 1, api.ErrToken}, {1000, 999, api.OK}, {1000, 1000, api.ErrToken}, {math.MaxInt, math.MaxInt - 1, api.OK}} {
		if e := model.Prompt(api.Config{Vocab: x.vocab}, []int{x.token}); e != x.want {
			t.Errorf("Prompt of %d of %d: %d, not %d", x.token, x.vocab, e, x.want)
		}
		if e := model.Prompt(api.Config{Vocab: x.vocab}, nil); e != api.ErrNone {
			t.Errorf("Prompt of none of %d: %d", x.vocab, e)
		}
	}
}

// odd are numbers that fit no configuration.
func odd() []model.Weights {
	return []model.Weights{
		{}, {Blocks: []model.Block{}}, {Blocks: make([]model.Block, 9)}, {Last: []api.Num{}, Embed: api.Mat{Data: []api.Num{}}},
		{Embed: api.Mat{Rows: -3, Cols: math.MaxInt, Data: []api.Num{1, least}}, Last: []api.Num{least, api.Most, 0}, Out: api.Mat{Rows: math.MinInt, Cols: 7}},
		{Blocks: []model.Block{{First: []api.Num{1}}, {Q: api.Mat{Rows: 1, Cols: 2, Data: []api.Num{5}}, K: api.Mat{Cols: 9}, V: api.Mat{Rows: 8}, O: api.Mat{Data: []api.Num{2, 3}}}, {Second: []api.Num{4, 4}, Up: api.Mat{Rows: 200, Cols: 1, Data: make([]api.Num, 200)}, Down: api.Mat{Rows: -1, Cols: -1, Data: []api.Num{6}}}}},
		{Out: api.Mat{Rows: 1, Cols: 5000, Data: make([]api.Num, 5000)}},
	}
}

// spare is how much room roomy leaves behind each list.
const spare = 3

// roomy is the same model with spare room behind each list, filled with 77.
func roomy(w model.Weights) model.Weights {
	blocks := slices.Clone(w.Blocks)
	for range spare {
		blocks = append(blocks, model.Block{First: []api.Num{77}})
	}
	w.Blocks = blocks[:len(w.Blocks)]
	for _, l := range lists(&w) {
		*l = append(slices.Clone(*l), 77, 77, 77)[:len(*l)]
	}
	return w
}

// stays tells whether a roomy model, and the room behind its lists, is as it was.
func stays(w, was model.Weights) bool {
	if !equal(w, was) {
		return false
	}
	for _, b := range w.Blocks[len(w.Blocks) : len(w.Blocks)+spare] {
		if !slices.Equal(b.First, []api.Num{77}) || !equal(model.Weights{Blocks: []model.Block{b}}, model.Weights{Blocks: []model.Block{{First: b.First}}}) {
			return false
		}
	}
	for _, l := range lists(&w) {
		if !slices.Equal((*l)[len(*l):len(*l)+spare], []api.Num{77, 77, 77}) {
			return false
		}
	}
	return true
}

// overwrite changes all of an answer, with the room behind its lists, and tells whether no two lists share memory.
func overwrite(w model.Weights) bool {
	all := lists(&w)
	for k, l := range all {
		*l = (*l)[:cap(*l)]
		for i := range *l {
			(*l)[i] = api.Num(k)
		}
	}
	apart := true
	for k, l := range all {
		for _, x := range *l {
			apart = apart && x == api.Num(k)
		}
	}
	for _, m := range matrices(&w) {
		m.Rows, m.Cols = 4711, 4711
	}
	blocks := w.Blocks[:cap(w.Blocks)]
	for i := range blocks {
		blocks[i] = model.Block{First: []api.Num{4711}}
	}
	return apart
}

// anyNumbers are numbers of all kinds: of sound configurations, and such as fit none.
func anyNumbers(t *testing.T) []model.Weights {
	t.Helper()
	l := odd()
	for _, c := range sound() {
		l = append(l, made(t, c, 10))
	}
	shared := made(t, config(3, 2, 1, 2, 2), 11) // its lists share memory, as those that are handed in may
	b := &shared.Blocks[0]
	b.K, b.V, b.Up, b.Second = b.Q, b.Q, b.Q, b.First
	shared.Blocks[1] = *b
	shared.Last = shared.Embed.Data[1:3]
	return append(l, shared)
}

// P6.3: the same numbers, whatever they are.
func TestCopy(t *testing.T) {
	for i, w := range anyNumbers(t) {
		if x := model.Copy(w); !equal(x, w) {
			t.Errorf("Copy %d: %v, not %v", i, x, w)
		}
	}
}

// P6.3: neither what is handed in nor the room behind it is changed.
func TestHandedInStays(t *testing.T) {
	for i, was := range anyNumbers(t) {
		w := roomy(was)
		model.Copy(w)
		for _, c := range append(sound(), config(3, 2, 1, 2, 2), config(0, 0, 0, 0, 0), config(2, 4, 3, 1, 1)) {
			model.Check(c, w)
		}
		if !stays(w, was) {
			t.Errorf("numbers %d were changed", i)
		}
	}
	for _, was := range [][]int{{}, {1}, {0, 1, 0}, {5, 0, -1}, make([]int, 129)} {
		tokens := append(slices.Clone(was), 77, 77)
		model.Prompt(config(2, 1, 1, 1, 1), tokens[:len(was)])
		if !slices.Equal(tokens, append(slices.Clone(was), 77, 77)) {
			t.Errorf("tokens were changed: %v", tokens)
		}
	}
}

// P6.3: a copy may be changed, with the room behind its lists, and nothing else is.
func TestCopiesAreNew(t *testing.T) {
	for i, was := range anyNumbers(t) {
		w := roomy(was)
		first, second := model.Copy(w), model.Copy(w)
		if !overwrite(first) || !overwrite(model.Copy(was)) {
			t.Errorf("Copy %d: its lists share memory", i)
		}
		if !stays(w, was) {
			t.Errorf("Copy %d shares memory with what was handed in", i)
		}
		if !equal(second, was) || !equal(model.Copy(w), was) {
			t.Errorf("Copy %d shares memory with another one", i)
		}
	}
}

// P6.3: made numbers may be changed, and the next ones are as before.
func TestMadeNumbersAreNew(t *testing.T) {
	for _, c := range sound() {
		first, second := made(t, c, 12), made(t, c, 12)
		was := roomy(second)
		if !equal(first, second) {
			t.Errorf("Make(%v, 12): not the same twice", c)
		}
		if !overwrite(first) {
			t.Errorf("Make(%v, 12): its lists share memory", c)
		}
		if !equal(second, was) || !equal(made(t, c, 12), was) {
			t.Errorf("Make(%v, 12): answers share memory", c)
		}
	}
}
