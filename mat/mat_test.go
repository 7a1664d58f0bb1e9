package mat_test

import (
	"math"
	"slices"
	"testing"

	"tiller/api"
	"tiller/mat"
	"tiller/vec"
)

const least = -api.Most - 1

// spare is how much room lies behind the data of a filled matrix.
const spare = 8

// numbers is a row of n numbers of all sizes, the same one each time.
func numbers(n, seed int) []api.Num {
	l := make([]api.Num, n)
	x := uint32(seed)*2654435761 + 12345
	for i := range l {
		x = x*1664525 + 1013904223
		l[i] = api.Num(int32(x) >> ((x >> 8) % 28))
	}
	return l
}

// filled is a sound matrix with spare room behind its data.
func filled(rows, cols, seed int) api.Mat {
	n := rows * cols
	return api.Mat{Rows: rows, Cols: cols, Data: numbers(n+spare, seed)[:n]}
}

// stays tells whether a matrix, and the room behind it, is as it was filled.
func stays(m api.Mat, rows, cols, seed int) bool {
	return m.Rows == rows && m.Cols == cols && slices.Equal(m.Data[:rows*cols+spare], numbers(rows*cols+spare, seed))
}

// equal tells whether two matrices are the same.
func equal(a, b api.Mat) bool {
	return a.Rows == b.Rows && a.Cols == b.Cols && slices.Equal(a.Data, b.Data)
}

// nothing tells whether a matrix is the zero value.
func nothing(m api.Mat) bool {
	return m.Rows == 0 && m.Cols == 0 && len(m.Data) == 0
}

// sample is the chapter's matrix.
func sample() api.Mat {
	return api.Mat{Rows: 2, Cols: 2, Data: []api.Num{65536, 131072, 0, 65536}}
}

// shapes are sides of sound matrices.
func shapes() [][2]int {
	return [][2]int{{1, 1}, {1, 2}, {2, 1}, {2, 3}, {3, 2}, {5, 5}, {1, api.MaxSide}, {api.MaxSide, 1}, {api.MaxSide, 3}, {3, api.MaxSide}, {api.MaxSide, api.MaxSide}}
}

// wrong is a matrix and its error.
type wrong struct {
	rows, cols, data int
	want             api.Errno
}

// matrix: the wrong one, its data none if data is below 0.
func (w wrong) matrix() api.Mat {
	if w.data < 0 {
		return api.Mat{Rows: w.rows, Cols: w.cols}
	}
	return api.Mat{Rows: w.rows, Cols: w.cols, Data: numbers(w.data, 9)}
}

// wrongs are matrices that aren't sound, at their edges, some with several errors.
func wrongs() []wrong {
	return []wrong{
		{0, 0, -1, api.ErrArg}, {0, 0, 0, api.ErrArg}, {0, 1, 0, api.ErrArg}, {1, 0, 0, api.ErrArg}, {0, 1, 1, api.ErrArg}, {1, 0, 1, api.ErrArg}, {-1, 1, 1, api.ErrArg}, {1, -1, 1, api.ErrArg}, {-2, -2, 4, api.ErrArg},
		{0, 129, 0, api.ErrArg}, {129, 0, 0, api.ErrArg}, {-1, 129, 5, api.ErrArg}, {math.MaxInt, -1, 5, api.ErrArg}, {math.MinInt, math.MinInt, 0, api.ErrArg}, {math.MinInt, math.MaxInt, 0, api.ErrArg}, {math.MinInt, 2, 0, api.ErrArg},
		{129, 1, 129, api.ErrBig}, {1, 129, 129, api.ErrBig}, {129, 129, 129 * 129, api.ErrBig}, {129, 128, 129 * 128, api.ErrBig}, {128, 129, 128 * 129, api.ErrBig}, {129, 1, -1, api.ErrBig}, {1, 129, 128, api.ErrBig},
		{math.MaxInt, math.MaxInt, 1, api.ErrBig}, {1 << 32, 1 << 32, 0, api.ErrBig}, {1, math.MaxInt, 5, api.ErrBig}, {math.MaxInt, 1, -1, api.ErrBig},
		{1, 1, -1, api.ErrLen}, {1, 1, 0, api.ErrLen}, {1, 1, 2, api.ErrLen}, {2, 2, 3, api.ErrLen}, {2, 2, 5, api.ErrLen}, {2, 3, 5, api.ErrLen}, {2, 3, 7, api.ErrLen}, {3, 2, -1, api.ErrLen},
		{128, 128, 128*128 - 1, api.ErrLen}, {128, 128, 128*128 + 1, api.ErrLen}, {128, 128, 0, api.ErrLen}, {1, 128, 127, api.ErrLen}, {128, 1, 129, api.ErrLen},
	}
}

// P4.1
func TestCheck(t *testing.T) {
	for _, s := range shapes() {
		if e := mat.Check(filled(s[0], s[1], 1)); e != api.OK {
			t.Errorf("Check of %v: %d", s, e)
		}
	}
	for _, w := range wrongs() {
		if e := mat.Check(w.matrix()); e != w.want {
			t.Errorf("Check of %v: %d", w, e)
		}
	}
}

// P4.1, P4.2: the error of Check comes first, whatever else is wrong, and nothing stands beside it.
func TestErrorsOfCheck(t *testing.T) {
	for _, w := range wrongs() {
		m := w.matrix()
		for _, i := range []int{0, -1, 1, w.rows, math.MaxInt, math.MinInt} {
			if l, e := mat.Row(m, i); e != w.want || len(l) != 0 {
				t.Errorf("Row %d of %v: %v, %d", i, w, l, e)
			}
		}
		for _, n := range []int{0, 1, 2, 128, 129, 5000} {
			if l, e := mat.Apply(m, numbers(n, 1)); e != w.want || len(l) != 0 {
				t.Errorf("Apply of %v to %d numbers: %d numbers, %d", w, n, len(l), e)
			}
		}
		if x, e := mat.Turn(m); e != w.want || !nothing(x) {
			t.Errorf("Turn of %v: %d", w, e)
		}
		for _, o := range []api.Mat{sample(), filled(1, 1, 2), filled(3, 128, 3)} {
			if x, e := mat.Times(m, o); e != w.want || !nothing(x) {
				t.Errorf("Times of %v and a sound one: %d", w, e)
			}
			if x, e := mat.Times(o, m); e != w.want || !nothing(x) {
				t.Errorf("Times of a sound one and %v: %d", w, e)
			}
		}
		for _, v := range wrongs() { // the first one's error, not the one that Check lists first
			if x, e := mat.Times(m, v.matrix()); e != w.want || !nothing(x) {
				t.Errorf("Times of %v and %v: %d", w, v, e)
			}
		}
	}
}

// P4.1
func TestRow(t *testing.T) {
	m := api.Mat{Rows: 2, Cols: 3, Data: []api.Num{1, least, 3, -4, api.Most, -api.Most}}
	for i, want := range [][]api.Num{{1, least, 3}, {-4, api.Most, -api.Most}} {
		if l, e := mat.Row(m, i); e != api.OK || !slices.Equal(l, want) {
			t.Errorf("Row %d: %v, %d", i, l, e)
		}
	}
	for _, s := range shapes() {
		m := filled(s[0], s[1], 4)
		for i := range s[0] {
			l, e := mat.Row(m, i)
			if e != api.OK || !slices.Equal(l, m.Data[i*s[1]:i*s[1]+s[1]]) {
				t.Errorf("Row %d of %v: %d numbers, %d", i, s, len(l), e)
			}
		}
		for _, i := range []int{-1, s[0], s[0] + 1, -s[0], 1 << 40, math.MaxInt, math.MinInt} {
			if l, e := mat.Row(m, i); e != api.ErrNone || len(l) != 0 {
				t.Errorf("Row %d of %v: %v, %d", i, s, l, e)
			}
		}
	}
}

// P4.1
func TestApply(t *testing.T) {
	for _, c := range []struct {
		m       api.Mat
		v, want []api.Num
	}{
		{sample(), []api.Num{65536, 65536}, []api.Num{196608, 65536}}, // the chapter's
		{api.Mat{Rows: 1, Cols: 1, Data: []api.Num{1}}, []api.Num{32768}, []api.Num{1}},
		{api.Mat{Rows: 1, Cols: 1, Data: []api.Num{least}}, []api.Num{65536}, []api.Num{-api.Most}},
		{api.Mat{Rows: 3, Cols: 1, Data: []api.Num{65536, -65536, 0}}, []api.Num{7}, []api.Num{7, -7, 0}},
		{api.Mat{Rows: 1, Cols: 3, Data: []api.Num{1, 2, 3}}, []api.Num{65536, 65536, -65536}, []api.Num{0}},
		{api.Mat{Rows: 1, Cols: 2, Data: []api.Num{1, 1}}, []api.Num{16384, 16384}, []api.Num{1}}, // rounded once
		// The sum stays at 2^63 - 1, and goes on from there.
		{api.Mat{Rows: 1, Cols: 5, Data: []api.Num{least, least, least, least, least}}, []api.Num{least, least, least, api.Most, api.Most}, []api.Num{65536}},
	} {
		if l, e := mat.Apply(c.m, c.v); e != api.OK || !slices.Equal(l, c.want) {
			t.Errorf("Apply(%v, %v): %v, %d", c.m, c.v, l, e)
		}
	}
	for _, s := range shapes() {
		m, v := filled(s[0], s[1], 5), numbers(s[1], 6)
		l, e := mat.Apply(m, v)
		if e != api.OK || len(l) != s[0] {
			t.Fatalf("Apply of %v: %d numbers, %d", s, len(l), e)
		}
		for i := range l {
			if x, _ := vec.Dot(m.Data[i*s[1]:i*s[1]+s[1]], v); l[i] != x {
				t.Errorf("Apply of %v, place %d: %d, not %d", s, i, l[i], x)
			}
		}
	}
}

// P4.1
func TestApplyLengths(t *testing.T) {
	for _, s := range shapes() {
		for _, n := range []int{0, s[1] - 1, s[1] + 1, s[0], 4096, 4097} {
			if n == s[1] {
				continue
			}
			if l, e := mat.Apply(filled(s[0], s[1], 5), numbers(n, 6)); e != api.ErrLen || len(l) != 0 {
				t.Errorf("Apply of %v to %d numbers: %v, %d", s, n, l, e)
			}
		}
	}
	if l, e := mat.Apply(sample(), nil); e != api.ErrLen || len(l) != 0 {
		t.Errorf("Apply to none: %v, %d", l, e)
	}
}

// P4.1
func TestTurn(t *testing.T) {
	if x, e := mat.Turn(sample()); e != api.OK || !equal(x, api.Mat{Rows: 2, Cols: 2, Data: []api.Num{65536, 0, 131072, 65536}}) { // the chapter's
		t.Errorf("Turn: %v, %d", x, e)
	}
	m := api.Mat{Rows: 2, Cols: 3, Data: []api.Num{1, least, 3, 4, 5, api.Most}}
	if x, e := mat.Turn(m); e != api.OK || !equal(x, api.Mat{Rows: 3, Cols: 2, Data: []api.Num{1, 4, least, 5, 3, api.Most}}) {
		t.Errorf("Turn: %v, %d", x, e)
	}
	for _, s := range shapes() {
		m := filled(s[0], s[1], 7)
		x, e := mat.Turn(m)
		if e != api.OK || x.Rows != s[1] || x.Cols != s[0] || len(x.Data) != s[0]*s[1] {
			t.Fatalf("Turn of %v: %d, %d, %d", s, x.Rows, x.Cols, e)
		}
		for i := range s[0] {
			for j := range s[1] {
				if x.Data[j*s[0]+i] != m.Data[i*s[1]+j] {
					t.Fatalf("Turn of %v: row %d, place %d", s, j, i)
				}
			}
		}
		if y, e := mat.Turn(x); e != api.OK || !equal(y, m) {
			t.Errorf("Turn of %v, twice: %d", s, e)
		}
	}
}

// column is column j of a matrix.
func column(m api.Mat, j int) []api.Num {
	var l []api.Num
	for i := range m.Rows {
		l = append(l, m.Data[i*m.Cols+j])
	}
	return l
}

// P4.2
func TestTimes(t *testing.T) {
	a := api.Mat{Rows: 2, Cols: 3, Data: []api.Num{65536, 131072, 0, 0, -65536, 32768}}
	b := api.Mat{Rows: 3, Cols: 2, Data: []api.Num{10, 20, 30, 40, 50, 61}}
	if p, e := mat.Times(a, b); e != api.OK || !equal(p, api.Mat{Rows: 2, Cols: 2, Data: []api.Num{70, 100, -5, -10}}) { // -9.5 is -10
		t.Errorf("Times: %v, %d", p, e)
	}
	// The sum stays at 2^63 - 1, and goes on from there: only rising places give it.
	row := api.Mat{Rows: 1, Cols: 5, Data: []api.Num{least, least, least, least, least}}
	col := api.Mat{Rows: 5, Cols: 1, Data: []api.Num{least, least, least, api.Most, api.Most}}
	if p, e := mat.Times(row, col); e != api.OK || !equal(p, api.Mat{Rows: 1, Cols: 1, Data: []api.Num{65536}}) {
		t.Errorf("Times at the bound: %v, %d", p, e)
	}
	for _, s := range [][3]int{{1, 1, 1}, {1, 2, 1}, {2, 1, 2}, {2, 3, 4}, {4, 3, 2}, {1, 128, 1}, {128, 1, 128}, {1, 128, 128}, {128, 128, 1}, {128, 128, 128}} {
		a, b := filled(s[0], s[1], 8), filled(s[1], s[2], 9)
		p, e := mat.Times(a, b)
		if e != api.OK || p.Rows != s[0] || p.Cols != s[2] || len(p.Data) != s[0]*s[2] {
			t.Fatalf("Times of %v: %d, %d, %d", s, p.Rows, p.Cols, e)
		}
		for i := range s[0] {
			for j := range s[2] {
				if x, _ := vec.Dot(a.Data[i*s[1]:i*s[1]+s[1]], column(b, j)); p.Data[i*s[2]+j] != x {
					t.Fatalf("Times of %v: row %d, place %d: %d, not %d", s, i, j, p.Data[i*s[2]+j], x)
				}
			}
		}
	}
}

// P4.2
func TestTimesLengths(t *testing.T) {
	for _, s := range shapes() {
		for _, o := range shapes() {
			p, e := mat.Times(filled(s[0], s[1], 1), filled(o[0], o[1], 2))
			if s[1] == o[0] {
				if e != api.OK {
					t.Errorf("Times of %v and %v: %d", s, o, e)
				}
			} else if e != api.ErrLen || !nothing(p) {
				t.Errorf("Times of %v and %v: %d, %d, %d", s, o, p.Rows, p.Cols, e)
			}
		}
	}
}

// P4.2
func TestUnit(t *testing.T) {
	for _, n := range []int{1, 2, 3, 64, api.MaxSide - 1, api.MaxSide} {
		u, e := mat.Unit(n)
		if e != api.OK || u.Rows != n || u.Cols != n || len(u.Data) != n*n {
			t.Fatalf("Unit(%d): %d, %d, %d", n, u.Rows, u.Cols, e)
		}
		for i, x := range u.Data {
			want := api.Num(0)
			if i/n == i%n {
				want = api.One
			}
			if x != want {
				t.Fatalf("Unit(%d): row %d, place %d: %d", n, i/n, i%n, x)
			}
		}
	}
	for n, want := range map[int]api.Errno{0: api.ErrArg, -1: api.ErrArg, -128: api.ErrArg, math.MinInt: api.ErrArg, api.MaxSide + 1: api.ErrBig, 1 << 32: api.ErrBig, 1 << 40: api.ErrBig, math.MaxInt: api.ErrBig} {
		if u, e := mat.Unit(n); e != want || !nothing(u) {
			t.Errorf("Unit(%d): %v, %d", n, u, e)
		}
	}
}

// P4.2: a unit changes no matrix, from either side; only the least Num, which no call answers, is brought to -Most.
func TestTimesUnit(t *testing.T) {
	two, _ := mat.Unit(2)
	if p, e := mat.Times(two, sample()); e != api.OK || !equal(p, sample()) { // the chapter's
		t.Errorf("Times(Unit(2), m): %v, %d", p, e)
	}
	for _, s := range shapes() {
		m := filled(s[0], s[1], 10)
		left, _ := mat.Unit(s[0])
		right, _ := mat.Unit(s[1])
		if p, e := mat.Times(left, m); e != api.OK || !equal(p, m) {
			t.Errorf("Unit times %v: %d", s, e)
		}
		if p, e := mat.Times(m, right); e != api.OK || !equal(p, m) {
			t.Errorf("%v times Unit: %d", s, e)
		}
	}
	one, _ := mat.Unit(1)
	if p, e := mat.Times(one, api.Mat{Rows: 1, Cols: 1, Data: []api.Num{least}}); e != api.OK || p.Data[0] != -api.Most {
		t.Errorf("Unit times the least: %v, %d", p, e)
	}
}

// P4.3: neither what is handed in nor the room behind it is changed.
func TestHandedInStays(t *testing.T) {
	for _, s := range shapes() {
		a, b := filled(s[0], s[1], 1), filled(s[1], s[0], 2)
		all := numbers(s[1]+spare, 3)
		v := all[:s[1]]
		mat.Check(a)
		mat.Row(a, 0)
		mat.Row(a, s[0]-1)
		mat.Row(a, s[0])
		mat.Apply(a, v)
		mat.Apply(a, v[1:])
		mat.Turn(a)
		mat.Times(a, b)
		mat.Times(a, a)
		if !stays(a, s[0], s[1], 1) || !stays(b, s[1], s[0], 2) || !slices.Equal(all, numbers(s[1]+spare, 3)) {
			t.Errorf("%v: something was changed", s)
		}
	}
}

// P4.3: an answer may be changed, with the room behind it, and nothing else is.
func TestAnswersAreNew(t *testing.T) {
	for _, s := range shapes() {
		a, b := filled(s[0], s[1], 1), filled(s[1], s[0], 2)
		all := numbers(s[1]+spare, 3)
		unit, _ := mat.Unit(s[0])
		calls := map[string]func() []api.Num{
			"Row":           func() []api.Num { l, _ := mat.Row(a, 0); return l },
			"Row, the last": func() []api.Num { l, _ := mat.Row(a, s[0]-1); return l },
			"Apply":         func() []api.Num { l, _ := mat.Apply(a, all[:s[1]]); return l },
			"Turn":          func() []api.Num { m, _ := mat.Turn(a); return m.Data },
			"Times":         func() []api.Num { m, _ := mat.Times(a, b); return m.Data },
			"Times a unit":  func() []api.Num { m, _ := mat.Times(unit, a); return m.Data },
			"Unit":          func() []api.Num { m, _ := mat.Unit(s[0]); return m.Data },
		}
		for name, call := range calls {
			first, second := call(), call()
			was := slices.Clone(second)
			first = first[:cap(first)]
			for i := range first {
				first[i] = 4711
			}
			if !stays(a, s[0], s[1], 1) || !stays(b, s[1], s[0], 2) || !slices.Equal(all, numbers(s[1]+spare, 3)) {
				t.Fatalf("%s of %v: the answer shares memory with what was handed in", name, s)
			}
			if !slices.Equal(second, was) || !slices.Equal(call(), was) {
				t.Errorf("%s of %v: answers share memory", name, s)
			}
		}
	}
}

// P4.3: one matrix may be handed in twice, and its own data as the column.
func TestOneMatrixTwice(t *testing.T) {
	m := sample()
	if p, e := mat.Times(m, m); e != api.OK || !slices.Equal(p.Data, []api.Num{65536, 262144, 0, 65536}) {
		t.Errorf("Times: %v, %d", p, e)
	}
	if l, e := mat.Apply(m, m.Data[:2]); e != api.OK || !slices.Equal(l, []api.Num{327680, 131072}) {
		t.Errorf("Apply: %v, %d", l, e)
	}
	if !equal(m, sample()) {
		t.Errorf("the matrix was changed: %v", m)
	}
}
