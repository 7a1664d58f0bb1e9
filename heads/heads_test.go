package heads_test

import (
	"math"
	"math/big"
	"slices"
	"testing"

	"tiller/api"
	"tiller/curve"
	"tiller/heads"
)

const least = -api.Most - 1

// numbers is a row of n numbers of all sizes, the same one each time.
func numbers(n, seed int) []api.Num {
	l := make([]api.Num, n)
	x := uint32(seed)*2654435761 + 12345
	for i := range l {
		x = x*1664525 + 1013904223
		l[i] = api.Num(int32(x) >> ((x >> 8) % 28))
	}
	return l
}

// near is a row of n numbers that aren't far from 0, so that keys weigh about as much as one another.
func near(n, seed int) []api.Num {
	l := numbers(n, seed)
	for i := range l {
		l[i] %= 2 * 65536
	}
	return l
}

// rowsOf are so many rows, made by a function, all of one length.
func rowsOf(count, size, seed int, row func(n, seed int) []api.Num) [][]api.Num {
	l := make([][]api.Num, count)
	for i := range l {
		l[i] = row(size, seed*1000+i)
	}
	return l
}

// same is a row of n numbers x.
func same(n int, x api.Num) []api.Num {
	return slices.Repeat([]api.Num{x}, n)
}

// deep is a copy of rows that shares no memory with them.
func deep(rows [][]api.Num) [][]api.Num {
	l := make([][]api.Num, len(rows))
	for i, row := range rows {
		l[i] = slices.Clone(row)
	}
	return l
}

// alike tells whether rows are the same, number by number.
func alike(a, b [][]api.Num) bool {
	return slices.EqualFunc(a, b, slices.Equal[[]api.Num])
}

// piece is part p of rows that are cut into so many.
func piece(rows [][]api.Num, p, parts int) [][]api.Num {
	l := make([][]api.Num, len(rows))
	for i, row := range rows {
		size := len(row) / parts
		l[i] = slices.Clone(row[p*size : (p+1)*size])
	}
	return l
}

// bounded is the nearest number from -most to most.
func bounded(x *big.Int, most int64) *big.Int {
	if x.CmpAbs(big.NewInt(most)) <= 0 {
		return x
	}
	return big.NewInt(int64(x.Sign()) * most)
}

// product is a times b, without bounds.
func product(a, b api.Num) *big.Int {
	return new(big.Int).Mul(big.NewInt(int64(a)), big.NewInt(int64(b)))
}

// rounded is x by 65536, halves away from 0, as a number.
func rounded(x *big.Int) api.Num {
	n := new(big.Int).Add(new(big.Int).Abs(x), big.NewInt(32768))
	n.Rsh(n, 16)
	n.Mul(n, big.NewInt(int64(x.Sign())))
	return api.Num(bounded(n, int64(api.Most)).Int64())
}

// sum is the sum of products of two rows, from 0 on, rounded once.
func sum(a, b []api.Num) api.Num {
	s := big.NewInt(0)
	for i := range a {
		s = bounded(s.Add(s, product(a[i], b[i])), math.MaxInt64)
	}
	return rounded(s)
}

// byRoot is 1 by the root of n, brought down to a part of 65536.
func byRoot(n int) api.Num {
	if n == 0 {
		return api.Most
	}
	return api.Num(new(big.Int).Sqrt(big.NewInt((1 << 48) / (65536 * int64(n)))).Int64())
}

// scores is the chapter's Scores in numbers without bounds.
func scores(q []api.Num, keys [][]api.Num) []api.Num {
	l := make([]api.Num, len(keys))
	for i, key := range keys {
		l[i] = rounded(product(sum(q, key), byRoot(len(q))))
	}
	return l
}

// one is what a single head comes to, in numbers without bounds.
func one(q []api.Num, keys, vals [][]api.Num) []api.Num {
	s := scores(q, keys)
	top, all := slices.Max(s), int64(0)
	for i, x := range s {
		s[i] = curve.Pow(api.Num(max(int64(x)-int64(top), -int64(api.Most))))
		all += int64(s[i])
	}
	for i, p := range s {
		s[i] = api.Num(65536 * int64(p) / all)
	}
	l := make([]api.Num, len(q))
	for j := range l {
		column := make([]api.Num, len(vals))
		for i := range vals {
			column[i] = vals[i][j]
		}
		l[j] = sum(s, column)
	}
	return l
}

// attend is the chapter's Attend in numbers without bounds.
func attend(q []api.Num, keys, vals [][]api.Num, n int) []api.Num {
	var l []api.Num
	for p := range n {
		l = append(l, one(piece([][]api.Num{q}, p, n)[0], piece(keys, p, n), piece(vals, p, n))...)
	}
	return l
}

// P7.1
func TestScores(t *testing.T) {
	for _, c := range []struct {
		q    []api.Num
		keys [][]api.Num
		want []api.Num
	}{
		{[]api.Num{65536, 0, 0, 0}, [][]api.Num{{65536, 5, 5, 5}}, []api.Num{32768}}, // the chapter's
		{[]api.Num{65536}, [][]api.Num{{3}, {-7}, {0}, {65536}}, []api.Num{3, -7, 0, 65536}}, {[]api.Num{0}, [][]api.Num{{3}, {api.Most}, {least}}, []api.Num{0, 0, 0}},
		// 1 by the root of 2 is 46340, by that of 3 it is 37837.
		{[]api.Num{65536, 0}, [][]api.Num{{65536, 0}, {0, 65536}, {-65536, 1}}, []api.Num{46340, 0, -46340}}, {[]api.Num{0, 65536, 65536}, [][]api.Num{{9, 65536, 0}, {9, 65536, 65536}}, []api.Num{37837, 75674}},
		// Rounded twice: half a part is a whole one, and half of that again.
		{[]api.Num{32768, 0, 0, 0}, [][]api.Num{{1, 0, 0, 0}, {-1, 0, 0, 0}}, []api.Num{1, -1}}, {[]api.Num{32767, 0, 0, 0}, [][]api.Num{{1, 0, 0, 0}}, []api.Num{0}}, {[]api.Num{32768, 32768, 0, 0}, [][]api.Num{{1, 1, 0, 0}, {3, 0, 0, 0}}, []api.Num{1, 1}},
		// No keys; rows of no numbers.
		{[]api.Num{1, 2}, nil, nil}, {[]api.Num{1, 2}, [][]api.Num{}, nil}, {nil, nil, nil}, {nil, [][]api.Num{nil}, []api.Num{0}}, {[]api.Num{}, [][]api.Num{{}, nil, {}}, []api.Num{0, 0, 0}}, {same(api.MaxVector+1, 1), nil, nil},
	} {
		if s, e := heads.Scores(c.q, c.keys); e != api.OK || !slices.Equal(s, c.want) || !slices.Equal(s, scores(c.q, c.keys)) {
			t.Errorf("Scores(%.6v, %v): %v, %d, not %v (%v)", c.q, c.keys, s, e, c.want, scores(c.q, c.keys))
		}
	}
}

// P7.1: products and sums that end at the bounds of layer 1, and sums that end at those of 63 bits.
func TestScoresAtBounds(t *testing.T) {
	four := func(x api.Num) []api.Num { return []api.Num{x, 0, 0, 0} }
	for _, c := range []struct {
		q, key []api.Num
		want   api.Num
	}{
		// The sum stays at its bound ahead of the product with a half.
		{four(api.Most), four(api.Most), 1 << 30}, {four(least), four(least), 1 << 30}, {four(least), four(api.Most), -(1 << 30)}, {four(api.Most), four(131072), 1 << 30}, {four(api.Most), four(-65536), -(1 << 30)}, {four(least), four(65536), -(1 << 30)}, {four(api.Most - 2), four(65536), 1<<30 - 1},
		{same(4, api.Most), same(4, 65536), 1 << 30}, {same(4, 1<<28), same(4, 65536), 1 << 29}, {same(4, 1<<29), same(4, 65536), 1 << 30}, {same(4, -(1 << 30)), same(4, 65536), -(1 << 30)},
		// Of one number: a product by 1.
		{[]api.Num{api.Most}, []api.Num{65536}, api.Most}, {[]api.Num{api.Most}, []api.Num{api.Most}, api.Most}, {[]api.Num{least}, []api.Num{65536}, -api.Most}, {[]api.Num{-api.Most}, []api.Num{65536}, -api.Most}, {[]api.Num{least}, []api.Num{least}, api.Most}, {[]api.Num{api.Most}, []api.Num{least}, -api.Most}, {[]api.Num{least}, []api.Num{-65536}, api.Most},
		// 4 times 2^62 is 2^63 - 1, from which the sum goes on: 4 times -2^61 leaves -1, which is nothing.
		{[]api.Num{least, least, least, 0}, []api.Num{least, least, least, 0}, 1 << 30}, {same(4, least), []api.Num{least, least, 1 << 30, 1 << 30}, 1 << 30},
		{append(same(4, least), 1<<30, 1<<30, 1<<30, 1<<30), same(8, least), 0},
		// What is between the bounds of layer 1 and of 63 bits isn't lost while it is summed.
		{[]api.Num{api.Most, -api.Most, 65536, 0}, []api.Num{api.Most, api.Most, 65536, 0}, 32768}, {[]api.Num{api.Most, api.Most, 6, 0}, []api.Num{least + 1, api.Most, 65536, 0}, 3},
	} {
		if s, e := heads.Scores(c.q, [][]api.Num{c.key}); e != api.OK || !slices.Equal(s, []api.Num{c.want}) || !slices.Equal(s, scores(c.q, [][]api.Num{c.key})) {
			t.Errorf("Scores(%v, %v): %v, %d, not %d (%v)", c.q, c.key, s, e, c.want, scores(c.q, [][]api.Num{c.key}))
		}
	}
}

// P7.1: a sum that was brought to its bound goes on from there, in the order of the numbers.
func TestScoresInOrder(t *testing.T) {
	up, down := same(4, least), same(4, 1<<30) // with the least number 4 times 2^62, and 4 times -2^61
	keys := [][]api.Num{slices.Concat(up, down), slices.Concat(down, up), {least, 1 << 30, least, 1 << 30, least, 1 << 30, least, 1 << 30}}
	q := same(8, least)
	k := byRoot(8)
	want := []api.Num{0, rounded(product(api.Most, k)), rounded(product(api.Most, k))}
	if s, e := heads.Scores(q, keys); e != api.OK || !slices.Equal(s, want) || !slices.Equal(s, scores(q, keys)) {
		t.Errorf("Scores: %v, %d, not %v (%v)", s, e, want, scores(q, keys))
	}
}

// P7.1: rows of all lengths.
func TestScoresByRule(t *testing.T) {
	for _, n := range append([]int{0, 100, 1000, api.MaxVector - 1, api.MaxVector}, to(70)...) {
		for seed := range 4 {
			for _, row := range []func(int, int) []api.Num{numbers, near} {
				q, keys := row(n, seed), rowsOf(5, n, seed+1, row)
				if s, e := heads.Scores(q, keys); e != api.OK || !slices.Equal(s, scores(q, keys)) {
					t.Fatalf("Scores of %d, %d: %v, %d, not %v", n, seed, s, e, scores(q, keys))
				}
			}
		}
	}
	// How many keys there may be isn't bounded here.
	q, keys := near(3, 1), rowsOf(5000, 3, 2, near)
	if s, e := heads.Scores(q, keys); e != api.OK || !slices.Equal(s, scores(q, keys)) {
		t.Errorf("Scores of 5000 keys: %d numbers, %d", len(s), e)
	}
}

// to are the numbers 1 to n.
func to(n int) []int {
	l := make([]int, n)
	for i := range l {
		l[i] = i + 1
	}
	return l
}

// P7.1: the error of the first key that has one, with nothing beside it.
func TestScoresErrors(t *testing.T) {
	const big = api.MaxVector + 1
	for _, c := range []struct {
		q    int
		keys []int
		want api.Errno
	}{
		{3, []int{3, 3, 3}, api.OK}, {api.MaxVector, []int{api.MaxVector}, api.OK}, {0, []int{0, 0}, api.OK}, {big, nil, api.OK},
		{3, []int{2}, api.ErrLen}, {3, []int{4}, api.ErrLen}, {3, []int{0}, api.ErrLen}, {0, []int{1}, api.ErrLen}, {3, []int{api.MaxVector}, api.ErrLen}, {api.MaxVector, []int{api.MaxVector - 1}, api.ErrLen},
		{3, []int{2, 3, 3}, api.ErrLen}, {3, []int{3, 4, 3}, api.ErrLen}, {3, []int{3, 3, 2}, api.ErrLen}, {0, []int{0, 0, 1}, api.ErrLen},
		{3, []int{big}, api.ErrBig}, {big, []int{3}, api.ErrBig}, {big, []int{big}, api.ErrBig}, {big, []int{0}, api.ErrBig}, {0, []int{big}, api.ErrBig},
		{3, []int{big, 3, 3}, api.ErrBig}, {3, []int{3, big, 3}, api.ErrBig}, {3, []int{3, 3, big}, api.ErrBig},
		// Of two the one that comes first.
		{3, []int{2, big}, api.ErrLen}, {3, []int{big, 2}, api.ErrBig}, {3, []int{3, 4, 3, big}, api.ErrLen}, {3, []int{3, big, 3, 2}, api.ErrBig}, {0, []int{0, 1, big}, api.ErrLen},
	} {
		keys := make([][]api.Num, len(c.keys))
		for i, n := range c.keys {
			keys[i] = same(n, 65536)
		}
		if s, e := heads.Scores(same(c.q, 65536), keys); e != c.want || e != api.OK && len(s) != 0 || e == api.OK && len(s) != len(keys) {
			t.Errorf("Scores of %d and %v: %d numbers, %d, not %d", c.q, c.keys, len(s), e, c.want)
		}
	}
}

// P7.1
func TestAttend(t *testing.T) {
	for _, c := range []struct {
		q          []api.Num
		keys, vals [][]api.Num
		heads      int
		want       []api.Num
	}{
		{[]api.Num{65536}, [][]api.Num{{0}, {0}}, [][]api.Num{{2}, {4}}, 1, []api.Num{3}}, // the chapter's
		// Twice the weight: 43690 and 21845 parts.
		{[]api.Num{65536}, [][]api.Num{{65536}, {0}}, [][]api.Num{{65536}, {0}}, 1, []api.Num{43690}}, {[]api.Num{65536}, [][]api.Num{{65536}, {0}}, [][]api.Num{{0}, {65536}}, 1, []api.Num{21845}}, {[]api.Num{-65536}, [][]api.Num{{65536}, {0}}, [][]api.Num{{65536}, {0}}, 1, []api.Num{21845}},
		// Two heads, each by its own part: the first likes the first key, the second the second one.
		{[]api.Num{65536, 65536}, [][]api.Num{{65536, 0}, {0, 65536}}, [][]api.Num{{65536, 65536}, {0, 0}}, 2, []api.Num{43690, 21845}},
		// As one head both go with it alike.
		{[]api.Num{65536, 65536}, [][]api.Num{{65536, 0}, {0, 65536}}, [][]api.Num{{65536, 65536}, {0, 0}}, 1, []api.Num{32768, 32768}},
		// Parts lie one behind the other: (0, 1) and (2, 3), not (0, 2) and (1, 3).
		{[]api.Num{20 * 65536, 20 * 65536, 0, 0}, [][]api.Num{{65536, 65536, 0, 0}, {0, 0, 0, 0}}, [][]api.Num{{10, 20, 30, 40}, {0, 0, 10, 20}}, 2, []api.Num{10, 20, 20, 30}},
		// Far apart: all of the weight is the first one's.
		{[]api.Num{api.Most}, [][]api.Num{{api.Most}, {least}, {0}}, [][]api.Num{{7}, {api.Most}, {least}}, 1, []api.Num{7}},
		{[]api.Num{0}, [][]api.Num{{0}, {0}}, [][]api.Num{{api.Most}, {api.Most}}, 1, []api.Num{api.Most}}, {[]api.Num{0}, [][]api.Num{{0}, {0}}, [][]api.Num{{least}, {least}}, 1, []api.Num{-api.Most}}, {[]api.Num{0}, [][]api.Num{{5}, {-5}, {least}}, [][]api.Num{{65536}, {65536}, {65536}}, 1, []api.Num{65535}},
	} {
		if x, e := heads.Attend(c.q, c.keys, c.vals, c.heads); e != api.OK || !slices.Equal(x, c.want) || !slices.Equal(x, attend(c.q, c.keys, c.vals, c.heads)) {
			t.Errorf("Attend(%v, %v, %v, %d): %v, %d, not %v (%v)", c.q, c.keys, c.vals, c.heads, x, e, c.want, attend(c.q, c.keys, c.vals, c.heads))
		}
	}
}

// P7.1: all lengths, heads that divide them, few keys and as many as there may be.
func TestAttendByRule(t *testing.T) {
	for _, size := range to(api.MaxDim) {
		for n := 1; n <= api.MaxHeads; n++ {
			if size%n != 0 {
				continue
			}
			for _, count := range []int{1, 2, 3, 17, api.MaxTokens - 1, api.MaxTokens} {
				for _, row := range []func(int, int) []api.Num{numbers, near} {
					q, keys, vals := row(size, count), rowsOf(count, size, 1, row), rowsOf(count, size, 2, numbers)
					if x, e := heads.Attend(q, keys, vals, n); e != api.OK || !slices.Equal(x, attend(q, keys, vals, n)) {
						t.Fatalf("Attend of %d numbers, %d keys, %d heads: %v, %d, not %v", size, count, n, x, e, attend(q, keys, vals, n))
					}
				}
			}
		}
	}
}

// P7.1: one key alone has all the weight, whatever it is.
func TestAttendOneKey(t *testing.T) {
	for _, key := range []api.Num{least, -api.Most, -65536, -1, 0, 1, 5, 65536, api.Most} {
		for _, q := range []api.Num{least, -65536, 0, 1, api.Most} {
			val := []api.Num{123, -456, least, -api.Most, api.Most, 0, 1, -1, 65536, 65535, 2, -2}
			want := slices.Clone(val)
			want[2] = -api.Most // times 1 it is answered as near as may be
			for n := 1; n <= api.MaxHeads; n++ {
				if x, e := heads.Attend(same(12, q), [][]api.Num{same(12, key)}, [][]api.Num{val}, n); e != api.OK || !slices.Equal(x, want) {
					t.Errorf("Attend of one key %d, %d heads: %v, %d", key, n, x, e)
				}
			}
		}
	}
}

// wanted is the first error, as the chapter lists them.
func wanted(q []api.Num, keys, vals [][]api.Num, n int) api.Errno {
	long := func(row []api.Num) bool { return len(row) != len(q) }
	switch {
	case n < 1 || n > 4:
		return api.ErrArg
	case len(q) < 1 || len(keys) < 1:
		return api.ErrNone
	case len(q) > 32 || len(keys) > 128:
		return api.ErrBig
	case len(q)%n != 0 || len(keys) != len(vals) || slices.ContainsFunc(keys, long) || slices.ContainsFunc(vals, long):
		return api.ErrLen
	}
	return api.OK
}

// checkError holds what Attend answers against the error that is wanted.
func checkError(t *testing.T, q []api.Num, keys, vals [][]api.Num, n int) {
	t.Helper()
	want := wanted(q, keys, vals, n)
	if x, e := heads.Attend(q, keys, vals, n); e != want || e != api.OK && len(x) != 0 || e == api.OK && len(x) != len(q) {
		t.Errorf("Attend of %d numbers, %d keys, %d vals, %d heads: %v, %d, not %d", len(q), len(keys), len(vals), n, x, e, want)
	}
}

// P7.1: the errors in their order, each alone and with those behind it.
func TestAttendErrors(t *testing.T) {
	for _, n := range []int{math.MinInt, -1, 0, 1, 2, 3, 4, 5, 32, math.MaxInt} {
		for _, size := range []int{0, 1, 2, 3, 4, 5, 12, 31, 32, 33, 36, 64, 5000} {
			for _, count := range []int{0, 1, 2, 127, 128, 129, 1000} {
				q, keys := same(size, 9), rowsOf(count, size, 1, near)
				for _, other := range []int{0, 1, count - 1, count, count + 1, 2 * count, 129} {
					vals := rowsOf(max(other, 0), size, 2, near)
					checkError(t, q, keys, vals, n)
				}
			}
		}
	}
}

// P7.1: keys and vals that aren't as long as q, at the first, a middle and the last place.
func TestAttendOtherLengths(t *testing.T) {
	for _, n := range []int{-1, 0, 1, 2, 3, 4, 5} {
		for _, size := range []int{1, 4, 12, 32, 33} {
			for _, count := range []int{1, 2, 5, 128, 129} {
				for _, at := range []int{0, count / 2, count - 1} {
					for _, other := range []int{0, 1, size - 1, size, size + 1, 2 * size, 5000} {
						q, keys, vals := near(size, 1), rowsOf(count, size, 2, near), rowsOf(count, size, 3, near)
						was := keys[at]
						keys[at] = same(other, 65536)
						checkError(t, q, keys, vals, n)
						keys[at] = was
						vals[at] = same(other, 65536)
						checkError(t, q, keys, vals, n)
						keys[at] = vals[at]
						checkError(t, q, keys, vals, n)
						keys[at], vals[at] = nil, nil
						checkError(t, q, keys, vals, n)
					}
				}
			}
		}
	}
}

// P7.1: some of the errors, written out.
func TestAttendErrorsOneByOne(t *testing.T) {
	row, rows := same(4, 1), rowsOf(3, 4, 1, near)
	for _, c := range []struct {
		q          []api.Num
		keys, vals [][]api.Num
		heads      int
		want       api.Errno
	}{
		{row, rows, rows, -1, api.ErrArg}, {row, rows, rows, 0, api.ErrArg}, {row, rows, rows, 1, api.OK}, {row, rows, rows, 4, api.OK}, {row, rows, rows, 5, api.ErrArg}, {row, rows, rows, 3, api.ErrLen},
		{nil, rows, rows, 1, api.ErrNone}, {[]api.Num{}, rows, rows, 1, api.ErrNone}, {row, nil, nil, 1, api.ErrNone}, {row, [][]api.Num{}, rows, 1, api.ErrNone}, {nil, nil, nil, 5, api.ErrArg}, {nil, nil, nil, 3, api.ErrNone}, {same(33, 1), nil, rows, 1, api.ErrNone}, {nil, rowsOf(129, 0, 1, near), nil, 1, api.ErrNone},
		{same(33, 1), rows, rows, 1, api.ErrBig}, {row, rowsOf(129, 4, 1, near), rowsOf(129, 4, 2, near), 1, api.ErrBig}, {same(33, 1), rows, nil, 2, api.ErrBig}, {row, rowsOf(129, 0, 1, near), nil, 3, api.ErrBig},
		{row, rows, nil, 1, api.ErrLen}, {row, rows, rows[:2], 1, api.ErrLen}, {row, rows[:2], rows, 1, api.ErrLen}, {row, rows, rowsOf(129, 4, 1, near), 1, api.ErrLen}, {same(3, 1), rows, rows, 1, api.ErrLen}, {same(5, 1), rows, rows, 1, api.ErrLen},
	} {
		if x, e := heads.Attend(c.q, c.keys, c.vals, c.heads); e != c.want || e != api.OK && len(x) != 0 {
			t.Errorf("Attend of %d numbers, %d keys, %d vals, %d heads: %v, %d, not %d", len(c.q), len(c.keys), len(c.vals), c.heads, x, e, c.want)
		}
	}
}

// differ tells at which parts, of so many, two rows differ.
func differ(a, b []api.Num, parts int) []int {
	var l []int
	for p := range parts {
		if !alike(piece([][]api.Num{a}, p, parts), piece([][]api.Num{b}, p, parts)) {
			l = append(l, p)
		}
	}
	return l
}

// P7.2: what one part of q, of a key or of a val is changed to, the other heads' answers stay.
func TestHeadsApart(t *testing.T) {
	for _, c := range []struct{ size, heads, count int }{{2, 2, 2}, {4, 2, 3}, {4, 4, 5}, {12, 3, 4}, {12, 4, 2}, {32, 4, 9}, {32, 2, 128}, {30, 3, 6}} {
		q, keys, vals := near(c.size, 5), rowsOf(c.count, c.size, 6, near), rowsOf(c.count, c.size, 7, near)
		was, _ := heads.Attend(q, keys, vals, c.heads)
		part := c.size / c.heads
		for at := range c.size {
			rows := [][]api.Num{q, keys[0], keys[c.count/2], keys[c.count-1], vals[0], vals[c.count/2], vals[c.count-1]}
			for i, row := range rows {
				for _, x := range []api.Num{row[at] + 200000, -row[at], least, api.Most} {
					kept := row[at]
					row[at] = x
					now, e := heads.Attend(q, keys, vals, c.heads)
					row[at] = kept
					if p := differ(was, now, c.heads); e != api.OK || len(p) > 1 || len(p) == 1 && p[0] != at/part {
						t.Fatalf("%v: row %d, place %d: heads %v changed, %d", c, i, at, p, e)
					}
				}
			}
		}
	}
}

// P7.2: each head's answer is that of its parts alone; a change of its own part is to be seen.
func TestHeadsAlone(t *testing.T) {
	for _, c := range []struct{ size, heads, count int }{{2, 2, 2}, {4, 2, 3}, {4, 4, 5}, {12, 3, 4}, {32, 4, 9}, {32, 2, 128}, {30, 3, 6}} {
		q, keys, vals := near(c.size, 8), rowsOf(c.count, c.size, 9, near), rowsOf(c.count, c.size, 10, near)
		x, e := heads.Attend(q, keys, vals, c.heads)
		if e != api.OK {
			t.Fatalf("%v: %d", c, e)
		}
		for p := range c.heads {
			alone, e := heads.Attend(piece([][]api.Num{q}, p, c.heads)[0], piece(keys, p, c.heads), piece(vals, p, c.heads), 1)
			if e != api.OK || !slices.Equal(alone, piece([][]api.Num{x}, p, c.heads)[0]) {
				t.Errorf("%v: head %d: %v alone, %d, not as in %v", c, p, alone, e, x)
			}
			other := deep(vals)
			for _, row := range other {
				row[p*c.size/c.heads] += 65536
			}
			now, e := heads.Attend(q, keys, other, c.heads)
			if e != api.OK || !slices.Equal(differ(x, now, c.heads), []int{p}) {
				t.Errorf("%v: head %d: heads %v changed, %d", c, p, differ(x, now, c.heads), e)
			}
		}
	}
}

// roomy are the same rows with spare room behind the list and behind each row, filled with 77.
func roomy(rows [][]api.Num) [][]api.Num {
	l := deep(rows)
	for i := range l {
		l[i] = append(l[i], 77, 77, 77)[:len(l[i])]
	}
	return append(l, []api.Num{77}, []api.Num{77})[:len(rows)]
}

// stays tells whether roomy rows, and the room behind them, are as they were.
func stays(rows, was [][]api.Num) bool {
	for _, row := range rows {
		if !slices.Equal(row[len(row):len(row)+3], []api.Num{77, 77, 77}) {
			return false
		}
	}
	return alike(rows, was) && alike(rows[len(rows):len(rows)+2], [][]api.Num{{77}, {77}})
}

// fill changes all of an answer, with the room behind it.
func fill(l []api.Num) {
	l = l[:cap(l)]
	for i := range l {
		l[i] = 4711
	}
}

// P7.3: neither what is handed in nor the room behind it is changed, and answers may be.
func TestHandedInStays(t *testing.T) {
	for _, c := range []struct{ size, heads, count, vals int }{{1, 1, 1, 1}, {4, 2, 3, 3}, {12, 3, 128, 128}, {32, 4, 9, 9}, {4, 3, 3, 3}, {4, 2, 3, 2}, {0, 1, 2, 2}, {33, 1, 2, 2}, {4, 0, 2, 2}, {4, 2, 0, 0}} {
		wasQ, wasKeys, wasVals := [][]api.Num{near(c.size, 1)}, rowsOf(c.count, c.size, 2, near), rowsOf(c.vals, c.size, 3, near)
		q, keys, vals := roomy(wasQ), roomy(wasKeys), roomy(wasVals)
		s1, _ := heads.Scores(q[0], keys)
		x1, _ := heads.Attend(q[0], keys, vals, c.heads)
		s2, _ := heads.Scores(q[0], keys)
		x2, _ := heads.Attend(q[0], keys, vals, c.heads)
		s, x := slices.Clone(s1), slices.Clone(x1)
		fill(s1)
		fill(x1)
		if !slices.Equal(s2, s) || !slices.Equal(x2, x) {
			t.Errorf("%v: answers share memory", c)
		}
		fill(s2)
		fill(x2)
		s3, _ := heads.Scores(q[0], keys)
		x3, _ := heads.Attend(q[0], keys, vals, c.heads)
		if !slices.Equal(s3, s) || !slices.Equal(x3, x) {
			t.Errorf("%v: not the same again", c)
		}
		if !stays(q, wasQ) || !stays(keys, wasKeys) || !stays(vals, wasVals) {
			t.Errorf("%v: what was handed in was changed", c)
		}
	}
}

// P7.3: one key's val is answered number by number, but isn't that val.
func TestOneValIsCopied(t *testing.T) {
	val := []api.Num{1, 2, 3, 4}
	x, e := heads.Attend(val, [][]api.Num{val}, [][]api.Num{val}, 2)
	if e != api.OK || !slices.Equal(x, val) {
		t.Fatalf("%v, %d", x, e)
	}
	fill(x)
	if !slices.Equal(val, []api.Num{1, 2, 3, 4}) {
		t.Errorf("the val was changed: %v", val)
	}
}

// P7.1, P7.3: q, keys and vals may be one and the same memory.
func TestSharedRows(t *testing.T) {
	row := near(8, 3)
	rows := [][]api.Num{row, row, near(8, 4), row}
	want := attend(row, deep(rows), deep(rows), 2)
	if x, e := heads.Attend(row, rows, rows, 2); e != api.OK || !slices.Equal(x, want) {
		t.Errorf("%v, %d, not %v", x, e, want)
	}
}
