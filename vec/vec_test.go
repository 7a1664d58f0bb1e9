package vec_test

import (
	"math"
	"math/big"
	"slices"
	"testing"

	"tiller/api"
	"tiller/fix"
	"tiller/vec"
)

const least = -api.Most - 1

// edges are numbers at which something may turn over.
func edges() []api.Num {
	l := []api.Num{least, -api.Most, -api.Most + 1, api.Most, api.Most - 1, 0}
	for _, x := range []api.Num{1, 2, 3, 32767, 32768, 32769, 65535, 65536, 65537, 98304, 1 << 30} {
		l = append(l, x, -x)
	}
	return l
}

// mixed is a row of n numbers of all sizes, the same one each time.
func mixed(n, seed int) []api.Num {
	l := make([]api.Num, n)
	x := uint32(seed)*2654435761 + 12345
	for i := range l {
		x = x*1664525 + 1013904223
		l[i] = api.Num(int32(x) >> ((x >> 8) % 28))
	}
	return l
}

// same is a row of n numbers x.
func same(n int, x api.Num) []api.Num {
	return slices.Repeat([]api.Num{x}, n)
}

// bounded is the nearest number from -most to most.
func bounded(x, most *big.Int) *big.Int {
	if x.CmpAbs(most) <= 0 {
		return x
	}
	return new(big.Int).Mul(most, big.NewInt(int64(x.Sign())))
}

// grown is the chapter's Grow in numbers without bounds.
func grown(sum, x *big.Int) *big.Int {
	return bounded(new(big.Int).Add(sum, x), big.NewInt(math.MaxInt64))
}

// dot is the chapter's Dot of rows of one length, in numbers without bounds.
func dot(a, b []api.Num) api.Num {
	sum := big.NewInt(0)
	for i := range a {
		sum = grown(sum, new(big.Int).Mul(big.NewInt(int64(a[i])), big.NewInt(int64(b[i]))))
	}
	n := new(big.Int).Add(new(big.Int).Abs(sum), big.NewInt(32768)) // a half farther from 0, then down
	n.Rsh(n, 16)
	n.Mul(n, big.NewInt(int64(sum.Sign())))
	return api.Num(bounded(n, big.NewInt(int64(api.Most))).Int64())
}

// P3.1
func TestGrow(t *testing.T) {
	for _, c := range [][3]int64{
		{0, 0, 0}, {5, -7, -2}, {-5, 7, 2}, {5, 7, 12}, {-5, -7, -12},
		{math.MaxInt64, 0, math.MaxInt64}, {math.MaxInt64 - 1, 1, math.MaxInt64}, {math.MaxInt64, 1, math.MaxInt64}, {1, math.MaxInt64, math.MaxInt64},
		{1 << 62, 1 << 62, math.MaxInt64}, {1<<62 - 1, 1 << 62, math.MaxInt64}, {1<<62 - 1, 1<<62 - 1, math.MaxInt64 - 1}, {math.MaxInt64, math.MaxInt64, math.MaxInt64},
		{-math.MaxInt64, 0, -math.MaxInt64}, {-math.MaxInt64 + 1, -1, -math.MaxInt64}, {-math.MaxInt64, -1, -math.MaxInt64}, {-1, -math.MaxInt64, -math.MaxInt64}, {-math.MaxInt64, -5, -math.MaxInt64},
		{-1 << 62, -1 << 62, -math.MaxInt64}, {-1<<62 + 1, -1 << 62, -math.MaxInt64}, {-1<<62 + 1, -1<<62 + 1, -math.MaxInt64 + 1}, {-math.MaxInt64, -math.MaxInt64, -math.MaxInt64},
		{math.MinInt64, 0, -math.MaxInt64}, {0, math.MinInt64, -math.MaxInt64}, {math.MinInt64, math.MinInt64, -math.MaxInt64}, {math.MinInt64, -1, -math.MaxInt64},
		{math.MinInt64, 1, -math.MaxInt64}, {math.MinInt64, 2, -math.MaxInt64 + 1}, {math.MinInt64, math.MaxInt64, -1}, {math.MaxInt64, math.MinInt64, -1}, {math.MaxInt64, -math.MaxInt64, 0},
	} {
		if s := vec.Grow(c[0], c[1]); s != c[2] {
			t.Errorf("Grow(%d, %d): %d, not %d", c[0], c[1], s, c[2])
		}
	}
}

// P3.1
func TestGrowByRule(t *testing.T) {
	var l []int64
	for _, x := range []int64{0, 1, 2, 1 << 31, 1 << 32, 1<<62 - 1, 1 << 62, 1<<62 + 1, math.MaxInt64 - 1, math.MaxInt64} {
		l = append(l, x, -x)
	}
	l = append(l, math.MinInt64)
	for _, a := range l {
		for _, b := range l {
			if s, want := vec.Grow(a, b), grown(big.NewInt(a), big.NewInt(b)).Int64(); s != want {
				t.Errorf("Grow(%d, %d): %d, not %d", a, b, s, want)
			}
		}
	}
}

// P3.1: behind a bound, a sum goes on from the bound.
func TestGrowGoesOn(t *testing.T) {
	top := vec.Grow(vec.Grow(1<<62, 1<<62), 1<<62)
	if s := vec.Grow(top, -1); s != math.MaxInt64-1 {
		t.Errorf("below the top: %d", s)
	}
	bottom := vec.Grow(vec.Grow(-1<<62, -1<<62), -1<<62)
	if s := vec.Grow(bottom, 1); s != -math.MaxInt64+1 {
		t.Errorf("above the bottom: %d", s)
	}
}

// P3.1
func TestDot(t *testing.T) {
	for _, c := range []struct {
		a, b []api.Num
		want api.Num
	}{
		{nil, nil, 0}, {[]api.Num{}, nil, 0},
		{[]api.Num{65536, 32768}, []api.Num{65536, 65536}, 98304}, // the chapter's
		{[]api.Num{1}, []api.Num{32768}, 1}, {[]api.Num{-1}, []api.Num{32768}, -1}, {[]api.Num{1}, []api.Num{32767}, 0}, {[]api.Num{-1}, []api.Num{32767}, 0},
		// Rounded once: each product alone would be 0, or 1.
		{[]api.Num{1, 1}, []api.Num{16384, 16384}, 1}, {[]api.Num{1, 1}, []api.Num{32768, 32768}, 1}, {[]api.Num{-1, -1, -1}, []api.Num{32768, 32768, 32768}, -2}, {[]api.Num{1, -1}, []api.Num{32768, 1}, 0},
		{[]api.Num{least}, []api.Num{65536}, -api.Most}, {[]api.Num{least}, []api.Num{-65536}, api.Most}, {[]api.Num{least}, []api.Num{least}, api.Most}, {[]api.Num{least}, []api.Num{api.Most}, -api.Most},
		{[]api.Num{api.Most}, []api.Num{65536}, api.Most}, {[]api.Num{api.Most, 1}, []api.Num{65536, 65536}, api.Most}, {[]api.Num{-api.Most, -1}, []api.Num{65536, 65536}, -api.Most},
		// What is too great for a Num is no bound while it is summed.
		{[]api.Num{api.Most, api.Most, -api.Most}, []api.Num{65536, 65536, 65536}, api.Most}, {[]api.Num{api.Most, 5, -api.Most}, []api.Num{api.Most, 65536, api.Most}, 5},
		{same(api.MaxVector, 65536), same(api.MaxVector, 1), 4096}, {same(api.MaxVector, api.Most), same(api.MaxVector, least), -api.Most},
	} {
		if x, e := vec.Dot(c.a, c.b); x != c.want || e != api.OK {
			t.Errorf("Dot(%.4v, %.4v): %d, %d, not %d", c.a, c.b, x, e, c.want)
		}
	}
}

// P3.1: sums that meet their bounds in the midst of a row. Only rising places give these.
func TestDotAtBounds(t *testing.T) {
	half, less := []api.Num{least, least}, []api.Num{least, api.Most} // 2^62, and -(2^62 - 2^31)
	for _, c := range []struct {
		name     string
		products [][]api.Num
		want     api.Num
	}{
		{"2^63 - 1, and less again", [][]api.Num{half, half, less, less}, 65536},
		{"2^63 - 1 of three, and less again", [][]api.Num{half, half, half, less, less}, 65536},
		{"less first", [][]api.Num{less, less, half, half, half}, api.Most},
		{"-(2^63 - 1), and more again", [][]api.Num{less, less, less, half, half, {-65536, 65536}}, -65536},
		{"more first", [][]api.Num{half, less, less, less}, -api.Most},
		{"up, down and up again", [][]api.Num{half, half, half, less, less, less, less, less, half, half, {1, 65536}}, 1},
		{"2^63 - 1, not 2^63", [][]api.Num{half, half, less, less, {1, 32768}}, 65536},
		{"-(2^63 - 1), not -2^63", [][]api.Num{less, less, less, half, half, {1, 32767}}, 1},
		{"2^63 - 1 twice over", [][]api.Num{half, half, {65536, 65536}, less, less, {-65536, 65536}}, 0},
	} {
		var a, b []api.Num
		for _, p := range c.products {
			a, b = append(a, p[0]), append(b, p[1])
		}
		if x, e := vec.Dot(a, b); x != c.want || e != api.OK || x != dot(a, b) {
			t.Errorf("%s: %d, %d, not %d (%d)", c.name, x, e, c.want, dot(a, b))
		}
		if x, e := vec.Dot(b, a); x != c.want || e != api.OK {
			t.Errorf("%s, changed places: %d, %d, not %d", c.name, x, e, c.want)
		}
	}
}

// P3.1
func TestDotByRule(t *testing.T) {
	for _, a := range edges() {
		for _, b := range edges() {
			for _, c := range edges() {
				x, y := []api.Num{a, b, c, a}, []api.Num{b, c, a, c}
				if d, e := vec.Dot(x, y); d != dot(x, y) || e != api.OK {
					t.Fatalf("Dot(%v, %v): %d, %d, not %d", x, y, d, e, dot(x, y))
				}
			}
		}
	}
	for seed := range 40 {
		for _, n := range []int{0, 1, 2, 3, 17, 128, api.MaxVector} {
			x, y := mixed(n, seed), mixed(n, seed+1000)
			if d, e := vec.Dot(x, y); d != dot(x, y) || e != api.OK {
				t.Fatalf("Dot of %d, %d: %d, %d, not %d", n, seed, d, e, dot(x, y))
			}
		}
	}
}

// P3.1, P3.2: the errors of Dot and Add, in their order.
func TestPairErrors(t *testing.T) {
	for _, c := range []struct {
		a, b int
		want api.Errno
	}{
		{0, 0, api.OK}, {1, 1, api.OK}, {api.MaxVector, api.MaxVector, api.OK},
		{0, 1, api.ErrLen}, {1, 0, api.ErrLen}, {1, 2, api.ErrLen}, {2, 1, api.ErrLen}, {api.MaxVector, api.MaxVector - 1, api.ErrLen}, {0, api.MaxVector, api.ErrLen}, {api.MaxVector, 0, api.ErrLen},
		{api.MaxVector + 1, api.MaxVector + 1, api.ErrBig}, {api.MaxVector + 1, 0, api.ErrBig}, {0, api.MaxVector + 1, api.ErrBig}, {api.MaxVector + 1, api.MaxVector, api.ErrBig}, {api.MaxVector, api.MaxVector + 1, api.ErrBig}, {100000, 3, api.ErrBig},
	} {
		a, b := same(c.a, 65536), same(c.b, 65536)
		x, e := vec.Dot(a, b)
		if e != c.want || e != api.OK && x != 0 {
			t.Errorf("Dot of %d and %d: %d, %d", c.a, c.b, x, e)
		}
		l, e := vec.Add(a, b)
		if e != c.want || e != api.OK && len(l) != 0 {
			t.Errorf("Add of %d and %d: %d numbers, %d", c.a, c.b, len(l), e)
		}
	}
}

// P3.2
func TestAdd(t *testing.T) {
	for _, c := range [][3][]api.Num{
		{nil, nil, nil}, {{}, nil, nil}, {{5}, {-7}, {-2}},
		{{1, 2, 3}, {10, 20, 30}, {11, 22, 33}},
		{{api.Most, -api.Most, least, least, least, api.Most, 0}, {1, -1, 0, least, api.Most, api.Most, least}, {api.Most, -api.Most, -api.Most, -api.Most, -1, api.Most, -api.Most}},
	} {
		if l, e := vec.Add(c[0], c[1]); e != api.OK || !slices.Equal(l, c[2]) {
			t.Errorf("Add(%v, %v): %v, %d", c[0], c[1], l, e)
		}
	}
	for _, n := range []int{1, 2, 100, api.MaxVector} {
		a, b := mixed(n, 3), mixed(n, 4)
		l, e := vec.Add(a, b)
		if e != api.OK || len(l) != n {
			t.Fatalf("Add of %d: %d numbers, %d", n, len(l), e)
		}
		for i := range l {
			if l[i] != fix.Add(a[i], b[i]) {
				t.Errorf("Add of %d, place %d: %d", n, i, l[i])
			}
		}
	}
}

// P3.2: a row has no bound here.
func TestScale(t *testing.T) {
	for _, c := range []struct {
		a    []api.Num
		k    api.Num
		want []api.Num
	}{
		{nil, 65536, nil}, {[]api.Num{}, 1, nil}, {[]api.Num{7}, 0, []api.Num{0}},
		{[]api.Num{2, -4}, 32768, []api.Num{1, -2}}, {[]api.Num{1, -1, 3, -3}, 32768, []api.Num{1, -1, 2, -2}}, {[]api.Num{1, -1}, 32767, []api.Num{0, 0}},
		{[]api.Num{least, api.Most, 5}, 65536, []api.Num{-api.Most, api.Most, 5}}, {[]api.Num{least, api.Most, 5}, -65536, []api.Num{api.Most, -api.Most, -5}},
		{[]api.Num{least, api.Most, 1, -1}, least, []api.Num{api.Most, -api.Most, -32768, 32768}},
	} {
		if l := vec.Scale(c.a, c.k); !slices.Equal(l, c.want) {
			t.Errorf("Scale(%v, %d): %v", c.a, c.k, l)
		}
	}
	for _, n := range []int{1, api.MaxVector, api.MaxVector + 1, 10000} {
		for _, k := range edges() {
			a := mixed(n, 5)
			l := vec.Scale(a, k)
			if len(l) != n {
				t.Fatalf("Scale of %d: %d numbers", n, len(l))
			}
			for i := range l {
				if l[i] != fix.Mul(a[i], k) {
					t.Fatalf("Scale of %d by %d, place %d: %d", n, k, i, l[i])
				}
			}
		}
	}
}

// P3.2: a row has no bound here.
func TestRise(t *testing.T) {
	for _, c := range [][2][]api.Num{
		{nil, nil}, {{}, nil}, {{0}, {0}}, {{-5, 5}, {0, 5}}, // the last one is the chapter's
		{{least, -api.Most, -1, 0, 1, 65536, api.Most - 1, api.Most}, {0, 0, 0, 0, 1, 65536, api.Most - 1, api.Most}},
	} {
		if l := vec.Rise(c[0]); !slices.Equal(l, c[1]) {
			t.Errorf("Rise(%v): %v", c[0], l)
		}
	}
	for _, n := range []int{1, api.MaxVector, api.MaxVector + 1, 10000} {
		a := mixed(n, 6)
		l := vec.Rise(a)
		if len(l) != n {
			t.Fatalf("Rise of %d: %d numbers", n, len(l))
		}
		for i := range l {
			if a[i] < 0 && l[i] != 0 || a[i] >= 0 && l[i] != a[i] {
				t.Errorf("Rise of %d, place %d: %d", n, i, l[i])
			}
		}
	}
}

// P3.2: a row has no bound here.
func TestArgmax(t *testing.T) {
	last := append(same(api.MaxVector, 3), 4)
	for _, c := range []struct {
		a    []api.Num
		want int
	}{
		{nil, -1}, {[]api.Num{}, -1}, {[]api.Num{0}, 0}, {[]api.Num{-5}, 0}, {[]api.Num{least}, 0},
		{[]api.Num{3, 7, 7}, 1}, // the chapter's
		{[]api.Num{7, 3, 7}, 0}, {[]api.Num{1, 2, 3}, 2}, {[]api.Num{3, 2, 1}, 0}, {[]api.Num{0, 0, 0}, 0}, {[]api.Num{-3, -1, -2, -1}, 1}, {[]api.Num{-1, 0, 0}, 1},
		{[]api.Num{least, least}, 0}, {[]api.Num{least, -api.Most, -api.Most}, 1}, {[]api.Num{-api.Most, least}, 0}, {[]api.Num{api.Most - 1, api.Most, api.Most}, 1}, {[]api.Num{api.Most, least}, 0},
		{same(api.MaxVector, -9), 0}, {last, api.MaxVector}, {append(last, 4, 5, 5), api.MaxVector + 2},
	} {
		if i := vec.Argmax(c.a); i != c.want {
			t.Errorf("Argmax(%.4v): %d, not %d", c.a, i, c.want)
		}
	}
	for seed := range 50 {
		a := mixed(200, seed)
		if i := vec.Argmax(a); i != slices.Index(a, slices.Max(a)) {
			t.Errorf("Argmax %d: %d", seed, i)
		}
	}
}

// roomy is a row with spare room behind it, and all of that memory.
func roomy(n, seed int) (row, all []api.Num) {
	all = mixed(n+8, seed)
	return all[:n], all
}

// P3.3: neither what is handed in nor the room behind it is changed.
func TestHandedInStays(t *testing.T) {
	for _, n := range []int{0, 1, 3, api.MaxVector, api.MaxVector + 1} {
		a, wholeA := roomy(n, 1)
		b, wholeB := roomy(n, 2)
		longer, wholeLonger := roomy(n+1, 3)
		vec.Dot(a, b)
		vec.Dot(a, longer)
		vec.Add(a, b)
		vec.Add(longer, b)
		vec.Scale(a, -98304)
		vec.Argmax(a)
		vec.Rise(a)
		if !slices.Equal(wholeA, mixed(n+8, 1)) || !slices.Equal(wholeB, mixed(n+8, 2)) || !slices.Equal(wholeLonger, mixed(n+9, 3)) {
			t.Errorf("rows of %d were changed", n)
		}
	}
}

// P3.3: an answer may be changed, with the room behind it, and nothing else is.
func TestAnswersAreNew(t *testing.T) {
	for _, n := range []int{0, 1, 3, api.MaxVector} {
		a, wholeA := roomy(n, 1)
		b, wholeB := roomy(n, 2)
		calls := map[string]func() []api.Num{
			"Add":            func() []api.Num { l, _ := vec.Add(a, b); return l },
			"Add to itself":  func() []api.Num { l, _ := vec.Add(a, a); return l },
			"Add of noughts": func() []api.Num { l, _ := vec.Add(a, same(n, 0)); return l },
			"Scale":          func() []api.Num { return vec.Scale(a, 7) },
			"Scale by 1":     func() []api.Num { return vec.Scale(a, api.One) },
			"Rise":           func() []api.Num { return vec.Rise(a) },
		}
		for name, call := range calls {
			first, second := call(), call()
			was := slices.Clone(second)
			first = first[:cap(first)]
			for i := range first {
				first[i] = 4711
			}
			if !slices.Equal(wholeA, mixed(n+8, 1)) || !slices.Equal(wholeB, mixed(n+8, 2)) {
				t.Fatalf("%s of %d: the answer shares memory with a row that was handed in", name, n)
			}
			if !slices.Equal(second, was) || !slices.Equal(call(), was) {
				t.Errorf("%s of %d: answers share memory", name, n)
			}
		}
	}
}

// P3.3: one row may be handed in twice.
func TestOneRowTwice(t *testing.T) {
	a := []api.Num{65536, -131072, 3}
	if x, e := vec.Dot(a, a); x != 5*65536 || e != api.OK {
		t.Errorf("Dot: %d, %d", x, e)
	}
	if l, e := vec.Add(a, a); e != api.OK || !slices.Equal(l, []api.Num{131072, -262144, 6}) || !slices.Equal(a, []api.Num{65536, -131072, 3}) {
		t.Errorf("Add: %v, %d; %v", l, e, a)
	}
}
