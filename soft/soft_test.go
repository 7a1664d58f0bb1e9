package soft_test

import (
	"math"
	"math/big"
	"slices"
	"testing"

	"tiller/api"
	"tiller/curve"
	"tiller/soft"
)

const least = -api.Most - 1

// edges are numbers at which something may turn over.
func edges() []api.Num {
	l := []api.Num{least, -api.Most, -api.Most + 1, api.Most, api.Most - 1, 0}
	for _, x := range []api.Num{1, 2, 3, 255, 256, 257, 32768, 65535, 65536, 65537, 98304, 1 << 20, 1 << 30} {
		l = append(l, x, -x)
	}
	return l
}

// numbers is a row of n numbers of all sizes, the same one each time.
func numbers(n, seed int) []api.Num {
	l := make([]api.Num, n)
	x := uint32(seed)*2654435761 + 12345
	for i := range l {
		x = x*1664525 + 1013904223
		l[i] = api.Num(int32(x) >> ((x >> 8) % 28))
	}
	return l
}

// near is a row of n numbers that aren't far apart, so that many of them weigh something.
func near(n, seed int) []api.Num {
	l := numbers(n, seed)
	for i := range l {
		l[i] %= 4 * 65536
	}
	return l
}

// same is a row of n numbers x.
func same(n int, x api.Num) []api.Num {
	return slices.Repeat([]api.Num{x}, n)
}

// sizes are lengths of rows that are allowed.
func sizes() []int {
	return []int{1, 2, 3, 7, 100, api.MaxVector - 1, api.MaxVector}
}

// bounded is the nearest number from -most to most.
func bounded(x *big.Int, most int64) *big.Int {
	if x.CmpAbs(big.NewInt(most)) <= 0 {
		return x
	}
	return big.NewInt(int64(x.Sign()) * most)
}

// product is a times b, without bounds.
func product(a, b api.Num) *big.Int {
	return new(big.Int).Mul(big.NewInt(int64(a)), big.NewInt(int64(b)))
}

// rounded is x by 65536, halves away from 0, as a number.
func rounded(x *big.Int) api.Num {
	n := new(big.Int).Add(new(big.Int).Abs(x), big.NewInt(32768))
	n.Rsh(n, 16)
	n.Mul(n, big.NewInt(int64(x.Sign())))
	return api.Num(bounded(n, int64(api.Most)).Int64())
}

// mean is the chapter's Mean in numbers without bounds.
func mean(v []api.Num) api.Num {
	sum := big.NewInt(0)
	for _, x := range v {
		sum = bounded(sum.Add(sum, product(x, x)), math.MaxInt64)
	}
	sum.Div(sum, big.NewInt(int64(len(v))))
	sum.Rsh(sum, 16)
	return api.Num(bounded(sum, int64(api.Most)).Int64())
}

// norm is the chapter's Norm in numbers without bounds.
func norm(v, gain []api.Num) []api.Num {
	m := min(int64(mean(v))+1, int64(api.Most))
	k := api.Num(new(big.Int).Sqrt(big.NewInt((1 << 48) / m)).Int64())
	l := make([]api.Num, len(v))
	for i := range v {
		l[i] = rounded(product(rounded(product(v[i], k)), gain[i]))
	}
	return l
}

// weights is the chapter's Weights in numbers without bounds.
func weights(v []api.Num) []api.Num {
	top := int64(least)
	for _, x := range v {
		top = max(top, int64(x))
	}
	p, sum := make([]*big.Int, len(v)), big.NewInt(0)
	for i, x := range v {
		p[i] = big.NewInt(int64(curve.Pow(api.Num(max(int64(x)-top, -int64(api.Most))))))
		sum.Add(sum, p[i])
	}
	l := make([]api.Num, len(v))
	for i := range p {
		q := new(big.Int).Lsh(p[i], 16)
		l[i] = api.Num(q.Div(q, sum).Int64())
	}
	return l
}

// mix is the chapter's Mix in numbers without bounds.
func mix(w []api.Num, rows [][]api.Num) []api.Num {
	l := make([]api.Num, len(rows[0]))
	for j := range l {
		sum := big.NewInt(0)
		for i := range rows {
			sum = bounded(sum.Add(sum, product(w[i], rows[i][j])), math.MaxInt64)
		}
		l[j] = rounded(sum)
	}
	return l
}

// P5.1
func TestMean(t *testing.T) {
	for _, c := range []struct {
		v    []api.Num
		want api.Num
	}{
		{[]api.Num{65536, 65536}, 65536}, // the chapter's
		{[]api.Num{0}, 0}, {[]api.Num{65536}, 65536}, {[]api.Num{-65536}, 65536}, {[]api.Num{131072, 0}, 131072}, {[]api.Num{131072, -131072}, 262144}, {same(api.MaxVector, 65536), 65536},
		// Brought down, not rounded.
		{[]api.Num{255}, 0}, {[]api.Num{256}, 1}, {[]api.Num{-255}, 0}, {[]api.Num{65535}, 65534}, {[]api.Num{65537}, 65538}, {[]api.Num{362}, 1}, {[]api.Num{363}, 2},
		{[]api.Num{256, 0}, 0}, {[]api.Num{256, 256, 255}, 0}, {[]api.Num{256, 256, 257}, 1}, {[]api.Num{443}, 2}, {[]api.Num{444, 443, 443}, 2}, {append(same(api.MaxVector-1, 256), 255), 0}, {same(api.MaxVector, 256), 1},
		// Summed ahead of the division: small squares come to something.
		{[]api.Num{100, 350}, 1}, {[]api.Num{100, 100, 100, 100, 566}, 1},
		{[]api.Num{api.Most}, api.Most}, {[]api.Num{least}, api.Most}, {[]api.Num{11863284}, api.Most}, {[]api.Num{11863283}, 2147483574}, {[]api.Num{16777216, 0}, api.Most}, {[]api.Num{16777215, 0}, 2147483392},
		{[]api.Num{-8388608, 0}, 536870912}, {[]api.Num{-8388608, 0, 0, 0, 0}, 214748364},
	} {
		if m, e := soft.Mean(c.v); m != c.want || e != api.OK || m != mean(c.v) {
			t.Errorf("Mean(%.6v): %d, %d, not %d (%d)", c.v, m, e, c.want, mean(c.v))
		}
	}
}

// P5.1: sums of squares that end at 2^63 - 1 don't turn over.
func TestMeanAtBounds(t *testing.T) {
	for _, n := range []int{2, 3, 4, 5, 8, 100, api.MaxVector} {
		for _, x := range []api.Num{least, -api.Most, api.Most} {
			if m, e := soft.Mean(same(n, x)); m != api.Most || e != api.OK {
				t.Errorf("Mean of %d numbers %d: %d, %d", n, x, m, e)
			}
		}
	}
	two := append([]api.Num{least, least}, make([]api.Num, api.MaxVector-2)...) // 2^63, by as many as there may be
	if m, e := soft.Mean(two); m != api.Most || e != api.OK {
		t.Errorf("Mean of 2^63: %d, %d", m, e)
	}
	one := append(make([]api.Num, api.MaxVector-1), 1<<29) // 2^58, by 2^28: not yet at a bound
	if m, e := soft.Mean(one); m != 1<<30 || e != api.OK {
		t.Errorf("Mean of 2^58: %d, %d", m, e)
	}
}

// P5.1
func TestMeanByRule(t *testing.T) {
	for _, a := range edges() {
		for _, b := range edges() {
			for _, v := range [][]api.Num{{a}, {a, b}, {a, b, 0}, {b, a, b, a, 5}} {
				if m, e := soft.Mean(v); m != mean(v) || e != api.OK {
					t.Fatalf("Mean(%v): %d, %d, not %d", v, m, e, mean(v))
				}
			}
		}
	}
	for seed := range 20 {
		for _, n := range sizes() {
			for _, v := range [][]api.Num{numbers(n, seed), near(n, seed)} {
				if m, e := soft.Mean(v); m != mean(v) || e != api.OK {
					t.Fatalf("Mean of %d, %d: %d, %d, not %d", n, seed, m, e, mean(v))
				}
			}
		}
	}
}

// P5.1
func TestNorm(t *testing.T) {
	for _, c := range []struct {
		v, gain, want []api.Num
	}{
		// The mean is 4, and a part more: k = Root(2^48 / 262145) = 32767.
		{[]api.Num{131072, -131072}, []api.Num{65536, 32768}, []api.Num{65534, -32767}},
		// A mean of 0 is 1 then: k = 16777216, 256.
		{[]api.Num{0}, []api.Num{65536}, []api.Num{0}}, {[]api.Num{1, -1}, []api.Num{65536, 65536}, []api.Num{256, -256}}, {[]api.Num{255, 0}, []api.Num{65536, 65536}, []api.Num{65280, 0}},
		// A mean of 1 is 2 then: k = Root(2^47) = 11863283.
		{[]api.Num{256}, []api.Num{65536}, []api.Num{46341}}, {[]api.Num{256}, []api.Num{-131072}, []api.Num{-92682}}, {[]api.Num{256}, []api.Num{0}, []api.Num{0}},
		// Gains at their bounds.
		{[]api.Num{65536}, []api.Num{api.Most}, []api.Num{2147450879}}, {[]api.Num{131072, 0, 0, 0}, []api.Num{api.Most, least, api.Most, 1}, []api.Num{api.Most, 0, 0, 0}}, {[]api.Num{-131072, 0, 0, 0}, []api.Num{api.Most, 0, 0, 0}, []api.Num{-api.Most, 0, 0, 0}}, {[]api.Num{-131072, 0, 0, 0}, []api.Num{least, 0, 0, 0}, []api.Num{api.Most, 0, 0, 0}},
		// A mean at Most stays there: k = Root(2^48 / Most) = 362.
		{[]api.Num{api.Most}, []api.Num{65536}, []api.Num{11862016}}, {[]api.Num{least}, []api.Num{65536}, []api.Num{-11862016}}, {[]api.Num{least, api.Most}, []api.Num{65536, 1}, []api.Num{-11862016, 181}},
	} {
		if l, e := soft.Norm(c.v, c.gain); e != api.OK || !slices.Equal(l, c.want) || !slices.Equal(l, norm(c.v, c.gain)) {
			t.Errorf("Norm(%v, %v): %v, %d, not %v (%v)", c.v, c.gain, l, e, c.want, norm(c.v, c.gain))
		}
	}
}

// P5.1
func TestNormByRule(t *testing.T) {
	for _, a := range edges() {
		for _, b := range edges() {
			for _, g := range edges() {
				v, gain := []api.Num{a, b, 7}, []api.Num{g, a, b}
				if l, e := soft.Norm(v, gain); e != api.OK || !slices.Equal(l, norm(v, gain)) {
					t.Fatalf("Norm(%v, %v): %v, %d, not %v", v, gain, l, e, norm(v, gain))
				}
			}
		}
	}
	for seed := range 10 {
		for _, n := range sizes() {
			v, gain := near(n, seed), numbers(n, seed+100)
			if l, e := soft.Norm(v, gain); e != api.OK || !slices.Equal(l, norm(v, gain)) {
				t.Fatalf("Norm of %d, %d: %d", n, seed, e)
			}
		}
	}
}

// P5.1, P5.2: the errors of rows by their length, with nothing beside them.
func TestRowErrors(t *testing.T) {
	for n, want := range map[int]api.Errno{0: api.ErrNone, 1: api.OK, 2: api.OK, api.MaxVector: api.OK, api.MaxVector + 1: api.ErrBig, 100000: api.ErrBig} {
		v := same(n, 65536)
		m, e := soft.Mean(v)
		if e != want || e != api.OK && m != 0 {
			t.Errorf("Mean of %d: %d, %d", n, m, e)
		}
		w, e := soft.Weights(v)
		if e != want || e != api.OK && len(w) != 0 || e == api.OK && len(w) != n {
			t.Errorf("Weights of %d: %d numbers, %d", n, len(w), e)
		}
		l, e := soft.Norm(v, v)
		if e != want || e != api.OK && len(l) != 0 || e == api.OK && len(l) != n {
			t.Errorf("Norm of %d: %d numbers, %d", n, len(l), e)
		}
		for _, g := range []int{0, 1, n - 1, n + 1, 2 * n, api.MaxVector, api.MaxVector + 1} {
			if g < 0 || g == n {
				continue
			}
			wanted := want
			if want == api.OK {
				wanted = api.ErrLen
			}
			if l, e := soft.Norm(v, same(g, 65536)); e != wanted || len(l) != 0 {
				t.Errorf("Norm of %d with %d gains: %d numbers, %d, not %d", n, g, len(l), e, wanted)
			}
		}
	}
	for _, v := range [][]api.Num{nil, {}} {
		if m, e := soft.Mean(v); e != api.ErrNone || m != 0 {
			t.Errorf("Mean of none: %d, %d", m, e)
		}
		if w, e := soft.Weights(v); e != api.ErrNone || len(w) != 0 {
			t.Errorf("Weights of none: %v, %d", w, e)
		}
		if l, e := soft.Norm(v, []api.Num{1}); e != api.ErrNone || len(l) != 0 {
			t.Errorf("Norm of none: %v, %d", l, e)
		}
	}
}

// P5.2
func TestWeights(t *testing.T) {
	for _, c := range []struct {
		v, want []api.Num
	}{
		{[]api.Num{0, 0}, []api.Num{32768, 32768}}, {[]api.Num{0, -65536}, []api.Num{43690, 21845}}, // the chapter's
		{[]api.Num{0}, []api.Num{65536}}, {[]api.Num{-7}, []api.Num{65536}}, {[]api.Num{least}, []api.Num{65536}}, {[]api.Num{api.Most}, []api.Num{65536}},
		// Only how far they are apart counts.
		{[]api.Num{-65536, 0}, []api.Num{21845, 43690}}, {[]api.Num{65536, 0}, []api.Num{43690, 21845}}, {[]api.Num{api.Most, api.Most - 65536}, []api.Num{43690, 21845}}, {[]api.Num{least, least + 65536}, []api.Num{21845, 43690}},
		{[]api.Num{5, 5, 5}, []api.Num{21845, 21845, 21845}}, {[]api.Num{least, least, least}, []api.Num{21845, 21845, 21845}}, {same(4, api.Most), same(4, 16384)}, {same(7, -1), same(7, 9362)}, {same(api.MaxVector, 9), same(api.MaxVector, 16)}, {same(api.MaxVector-1, 9), same(api.MaxVector-1, 16)},
		// Far apart: 2^-16 is one part, which the sum feels; below it is nothing.
		{[]api.Num{0, -15 * 65536}, []api.Num{65534, 1}}, {[]api.Num{0, -16 * 65536}, []api.Num{65535, 0}}, {[]api.Num{0, -17 * 65536}, []api.Num{65536, 0}}, {[]api.Num{0, -16*65536 - 1}, []api.Num{65536, 0}},
		{[]api.Num{api.Most, least}, []api.Num{65536, 0}}, {[]api.Num{least, api.Most}, []api.Num{0, 65536}}, {[]api.Num{least, api.Most, least, api.Most}, []api.Num{0, 32768, 0, 32768}}, {[]api.Num{0, least}, []api.Num{65536, 0}}, {[]api.Num{0, -api.Most}, []api.Num{65536, 0}},
		// 46341 and 65536, by their sum, brought down.
		{[]api.Num{-32768, 0}, []api.Num{27145, 38390}}, {[]api.Num{0, -1}, []api.Num{32768, 32767}},
	} {
		if w, e := soft.Weights(c.v); e != api.OK || !slices.Equal(w, c.want) || !slices.Equal(w, weights(c.v)) {
			t.Errorf("Weights(%.6v): %.6v, %d, not %.6v (%.6v)", c.v, w, e, c.want, weights(c.v))
		}
	}
}

// P5.2
func TestWeightsByRule(t *testing.T) {
	for _, a := range edges() {
		for _, b := range edges() {
			for _, c := range edges() {
				checkWeights(t, []api.Num{a, b, c})
				checkWeights(t, []api.Num{b, a, c, a})
			}
		}
	}
	for seed := range 20 {
		for _, n := range sizes() {
			checkWeights(t, numbers(n, seed))
			checkWeights(t, near(n, seed))
			checkWeights(t, same(n, near(1, seed)[0]))
			checkWeights(t, append(same(n-1, -65536), 0))
		}
	}
}

// checkWeights holds a row's weights against the chapter's rule, P5.2, and against what P5.3 says of all weights.
func checkWeights(t *testing.T, v []api.Num) {
	t.Helper()
	w, e := soft.Weights(v)
	if e != api.OK || !slices.Equal(w, weights(v)) {
		t.Fatalf("Weights(%.6v): %.6v, %d, not %.6v", v, w, e, weights(v))
	}
	sum := 0
	for _, x := range w {
		if x < 0 {
			t.Fatalf("Weights(%.6v): %d is below 0", v, x)
		}
		sum += int(x)
	}
	if sum > 65536 || 65536-sum >= len(v) {
		t.Fatalf("Weights(%.6v): they come to %d", v, sum)
	}
	byNumber := make([]int, len(v))
	for i := range byNumber {
		byNumber[i] = i
	}
	slices.SortFunc(byNumber, func(i, j int) int { return int(v[i]) - int(v[j]) })
	for k := 1; k < len(byNumber); k++ {
		i, j := byNumber[k-1], byNumber[k]
		if w[i] > w[j] || v[i] == v[j] && w[i] != w[j] {
			t.Fatalf("Weights(%.6v): %d weighs %d, %d weighs %d", v, v[i], w[i], v[j], w[j])
		}
	}
}

// P5.3: rows that come near to missing as much as they may.
func TestWeightsMiss(t *testing.T) {
	for n := 1; n <= 300; n++ {
		checkWeights(t, same(n, 3))
		v := same(n, 0)
		for i := range v {
			v[i] = api.Num(-1000 * i)
		}
		checkWeights(t, v)
	}
	for d := api.Num(0); d < 18*65536; d += 509 {
		checkWeights(t, []api.Num{0, -d})
		checkWeights(t, []api.Num{-d, 0, -d / 2})
	}
}

// P5.2
func TestMix(t *testing.T) {
	for _, c := range []struct {
		w    []api.Num
		rows [][]api.Num
		want []api.Num
	}{
		{[]api.Num{32768, 32768}, [][]api.Num{{2}, {4}}, []api.Num{3}}, // the chapter's
		{[]api.Num{65536}, [][]api.Num{{5, -7, 0}}, []api.Num{5, -7, 0}}, {[]api.Num{65536, 0}, [][]api.Num{{5, -7}, {least, api.Most}}, []api.Num{5, -7}}, {[]api.Num{0, 65536}, [][]api.Num{{5, -7}, {1, 2}}, []api.Num{1, 2}},
		{[]api.Num{-65536, 131072}, [][]api.Num{{10, 20}, {1, -2}}, []api.Num{-8, -24}},
		// Rounded once, halves away from 0.
		{[]api.Num{32768}, [][]api.Num{{1, -1, 3, -3, 2, 0}}, []api.Num{1, -1, 2, -2, 1, 0}}, {[]api.Num{32767}, [][]api.Num{{1, -1}}, []api.Num{0, 0}},
		{[]api.Num{16384, 16384}, [][]api.Num{{1, -1, 1}, {1, -1, -1}}, []api.Num{1, -1, 0}}, {[]api.Num{32768, 32768}, [][]api.Num{{1, 1, -1}, {1, 0, -1}}, []api.Num{1, 1, -1}},
		// A number that may be handed in, but isn't answered.
		{[]api.Num{65536}, [][]api.Num{{least, -api.Most, api.Most}}, []api.Num{-api.Most, -api.Most, api.Most}}, {[]api.Num{-65536}, [][]api.Num{{least, api.Most}}, []api.Num{api.Most, -api.Most}}, {[]api.Num{least}, [][]api.Num{{least, 1, -1, api.Most}}, []api.Num{api.Most, -32768, 32768, -api.Most}},
		{[]api.Num{65536, 65536}, [][]api.Num{{api.Most, -api.Most}, {1, -1}}, []api.Num{api.Most, -api.Most}},
		// What is too great for a Num is no bound while it is summed.
		{[]api.Num{65536, 65536, -65536}, [][]api.Num{{api.Most}, {api.Most}, {api.Most}}, []api.Num{api.Most}}, {[]api.Num{api.Most, 65536, api.Most}, [][]api.Num{{api.Most}, {5}, {-api.Most}}, []api.Num{5}},
		// Rows of no numbers.
		{[]api.Num{1}, [][]api.Num{{}}, nil}, {[]api.Num{1}, [][]api.Num{nil}, nil}, {[]api.Num{1, 2, 3}, [][]api.Num{{}, nil, {}}, nil}, {same(api.MaxVector, 1), make([][]api.Num, api.MaxVector), nil},
	} {
		if l, e := soft.Mix(c.w, c.rows); e != api.OK || !slices.Equal(l, c.want) || !slices.Equal(l, mix(c.w, c.rows)) {
			t.Errorf("Mix(%.6v, %.6v): %v, %d, not %v (%v)", c.w, c.rows, l, e, c.want, mix(c.w, c.rows))
		}
	}
}

// P5.2: sums that meet their bounds in the midst of a column. Only rising rows give these.
func TestMixAtBounds(t *testing.T) {
	half, less := []api.Num{least, least}, []api.Num{least, api.Most} // 2^62, and -(2^62 - 2^31)
	for _, c := range []struct {
		name     string
		products [][]api.Num
		want     api.Num
	}{
		{"2^63 - 1 alone", [][]api.Num{half, half}, api.Most},
		{"-(2^63 - 1) alone", [][]api.Num{less, less, less}, -api.Most},
		{"2^63 - 1, and less again", [][]api.Num{half, half, less, less}, 65536},
		{"2^63 - 1 of three, and less again", [][]api.Num{half, half, half, less, less}, 65536},
		{"less first", [][]api.Num{less, less, half, half, half}, api.Most},
		{"-(2^63 - 1), and more again", [][]api.Num{less, less, less, half, half, {-65536, 65536}}, -65536},
		{"more first", [][]api.Num{half, less, less, less}, -api.Most},
		{"2^63 - 1, not 2^63", [][]api.Num{half, half, less, less, {1, 32768}}, 65536},
		{"-(2^63 - 1), not -2^63", [][]api.Num{less, less, less, half, half, {1, 32767}}, 1},
	} {
		var w []api.Num
		var rows [][]api.Num
		for _, p := range c.products {
			w, rows = append(w, p[0]), append(rows, []api.Num{p[1], 0, p[1]})
		}
		l, e := soft.Mix(w, rows)
		if e != api.OK || !slices.Equal(l, []api.Num{c.want, 0, c.want}) || !slices.Equal(l, mix(w, rows)) {
			t.Errorf("%s: %v, %d, not %d (%v)", c.name, l, e, c.want, mix(w, rows))
		}
	}
}

// grid is n rows of so many numbers.
func grid(n, cols, seed int) [][]api.Num {
	rows := make([][]api.Num, n)
	for i := range rows {
		rows[i] = numbers(cols, seed+i)
	}
	return rows
}

// P5.2: weights have a bound, the numbers of a row have none.
func TestMixByRule(t *testing.T) {
	for _, a := range edges() {
		for _, b := range edges() {
			w, rows := []api.Num{a, b, b}, [][]api.Num{edges(), numbers(len(edges()), 3), edges()}
			if l, e := soft.Mix(w, rows); e != api.OK || !slices.Equal(l, mix(w, rows)) {
				t.Fatalf("Mix by %v: %v, %d, not %v", w, l, e, mix(w, rows))
			}
		}
	}
	for seed, s := range [][2]int{{1, 1}, {1, 5}, {5, 1}, {3, 4}, {128, 32}, {api.MaxVector, 3}, {2, api.MaxVector}, {2, api.MaxVector + 1}, {3, 10000}} {
		w, rows := numbers(s[0], seed), grid(s[0], s[1], 1000*seed)
		if l, e := soft.Mix(w, rows); e != api.OK || !slices.Equal(l, mix(w, rows)) {
			t.Fatalf("Mix of %v: %d", s, e)
		}
	}
}

// P5.2: the errors of Mix, in their order, with nothing beside them.
func TestMixErrors(t *testing.T) {
	ragged := func(n, at, cols int) [][]api.Num {
		rows := grid(n, 3, 1)
		rows[at] = numbers(cols, 2)
		return rows
	}
	for _, c := range []struct {
		name    string
		weights int
		rows    [][]api.Num
		want    api.Errno
	}{
		{"nothing", 0, nil, api.ErrNone}, {"no weights", 0, grid(2, 3, 1), api.ErrNone}, {"no rows", 2, nil, api.ErrNone}, {"an empty list of rows", 1, [][]api.Num{}, api.ErrNone},
		{"no weights, rows of many lengths", 0, ragged(3, 1, 2), api.ErrNone}, {"too many weights, no rows", api.MaxVector + 1, nil, api.ErrNone}, {"no weights, many rows", 0, make([][]api.Num, api.MaxVector+1), api.ErrNone},
		{"too many", api.MaxVector + 1, make([][]api.Num, api.MaxVector+1), api.ErrBig}, {"too many weights", api.MaxVector + 1, grid(2, 3, 1), api.ErrBig}, {"too many weights, rows of many lengths", api.MaxVector + 1, ragged(3, 1, 2), api.ErrBig}, {"far too many", 100000, grid(1, 1, 1), api.ErrBig},
		{"as many as may be", api.MaxVector, make([][]api.Num, api.MaxVector), api.OK},
		{"a row too many", 2, grid(3, 3, 1), api.ErrLen}, {"a row wanting", 3, grid(2, 3, 1), api.ErrLen}, {"rows above the bound of weights", 2, make([][]api.Num, api.MaxVector+1), api.ErrLen}, {"a row wanting at the bound", api.MaxVector, make([][]api.Num, api.MaxVector-1), api.ErrLen},
		{"the first is shorter", 3, ragged(3, 0, 2), api.ErrLen}, {"the first is longer", 3, ragged(3, 0, 4), api.ErrLen}, {"the first is empty", 3, ragged(3, 0, 0), api.ErrLen},
		{"the second is shorter", 3, ragged(3, 1, 2), api.ErrLen}, {"the second is longer", 3, ragged(3, 1, 4), api.ErrLen}, {"the last is shorter", 3, ragged(3, 2, 2), api.ErrLen}, {"the last is longer", 3, ragged(3, 2, 4), api.ErrLen}, {"the last is empty", 3, ragged(3, 2, 0), api.ErrLen},
		{"no numbers, but in the last", 2, [][]api.Num{{}, {1}}, api.ErrLen}, {"one too long", 2, [][]api.Num{{1}, numbers(api.MaxVector+1, 1)}, api.ErrLen},
		{"all as long", 3, ragged(3, 1, 3), api.OK},
	} {
		l, e := soft.Mix(same(c.weights, 65536), c.rows)
		if e != c.want || e != api.OK && len(l) != 0 {
			t.Errorf("%s: %v, %d, not %d", c.name, l, e, c.want)
		}
	}
}

// roomy is a row with spare room behind it, and all of that memory.
func roomy(n, seed int) (row, all []api.Num) {
	all = numbers(n+8, seed)
	return all[:n], all
}

// roomyGrid is n rows of n numbers, with spare room behind each and behind their list, and all of that memory.
func roomyGrid(n, seed int) (rows, allRows, all [][]api.Num) {
	allRows = make([][]api.Num, n+3)
	for i := range allRows {
		row, whole := roomy(n, seed+i)
		allRows[i], all = row, append(all, whole)
	}
	return allRows[:n], allRows, all
}

// staysGrid tells whether roomyGrid's memory is as it was made.
func staysGrid(n, seed int, allRows, all [][]api.Num) bool {
	for i := range allRows {
		if len(allRows[i]) != n || n > 0 && &allRows[i][0] != &all[i][0] || !slices.Equal(all[i], numbers(n+8, seed+i)) {
			return false
		}
	}
	return len(allRows) == n+3
}

// P5.4: neither what is handed in nor the room behind it is changed.
func TestHandedInStays(t *testing.T) {
	for _, n := range []int{0, 1, 3, 50} {
		v, wholeV := roomy(n, 1)
		gain, wholeGain := roomy(n, 2)
		rows, allRows, all := roomyGrid(n, 10)
		soft.Mean(v)
		soft.Norm(v, gain)
		soft.Norm(v, wholeGain)
		soft.Weights(v)
		soft.Mix(v, rows)
		soft.Mix(v, allRows)
		if !slices.Equal(wholeV, numbers(n+8, 1)) || !slices.Equal(wholeGain, numbers(n+8, 2)) || !staysGrid(n, 10, allRows, all) {
			t.Errorf("rows of %d were changed", n)
		}
	}
	for _, n := range []int{api.MaxVector, api.MaxVector + 1} {
		v, whole := roomy(n, 1)
		soft.Mean(v)
		soft.Norm(v, v)
		soft.Weights(v)
		if !slices.Equal(whole, numbers(n+8, 1)) {
			t.Errorf("a row of %d was changed", n)
		}
	}
}

// P5.4: an answer may be changed, with the room behind it, and nothing else is.
func TestAnswersAreNew(t *testing.T) {
	for _, n := range []int{1, 3, 50} {
		v, wholeV := roomy(n, 1)
		rows, allRows, all := roomyGrid(n, 10)
		calls := map[string]func() []api.Num{
			"Norm":           func() []api.Num { l, _ := soft.Norm(v, rows[0]); return l },
			"Norm by itself": func() []api.Num { l, _ := soft.Norm(v, v); return l },
			"Weights":        func() []api.Num { l, _ := soft.Weights(v); return l },
			"Mix":            func() []api.Num { l, _ := soft.Mix(v, rows); return l },
			"Mix of one row": func() []api.Num { l, _ := soft.Mix([]api.Num{api.One}, rows[:1]); return l },
			"Mix of none":    func() []api.Num { l, _ := soft.Mix([]api.Num{api.One}, [][]api.Num{v[:0]}); return l },
		}
		for name, call := range calls {
			first, second := call(), call()
			was := slices.Clone(second)
			first = first[:cap(first)]
			for i := range first {
				first[i] = 4711
			}
			if !slices.Equal(wholeV, numbers(n+8, 1)) || !staysGrid(n, 10, allRows, all) {
				t.Fatalf("%s of %d: the answer shares memory with a row that was handed in", name, n)
			}
			if !slices.Equal(second, was) || !slices.Equal(call(), was) {
				t.Errorf("%s of %d: answers share memory", name, n)
			}
		}
	}
}

// P5.4: one row may be handed in at several places.
func TestOneRowTwice(t *testing.T) {
	v := []api.Num{65536, -65536}
	if l, e := soft.Norm(v, v); e != api.OK || !slices.Equal(l, norm(v, []api.Num{65536, -65536})) || !slices.Equal(v, []api.Num{65536, -65536}) {
		t.Errorf("Norm: %v, %d; %v", l, e, v)
	}
	if l, e := soft.Mix(v, [][]api.Num{v, v}); e != api.OK || !slices.Equal(l, []api.Num{0, 0}) || !slices.Equal(v, []api.Num{65536, -65536}) {
		t.Errorf("Mix: %v, %d; %v", l, e, v)
	}
}
