package clock_test

import (
	"math"
	"math/rand"
	"slices"
	"testing"

	"tiller/api"
	"tiller/clock"
)

// book is clocks as the chapter's head tells them: what each clock said at each moment so far.
type book struct {
	n       int
	moments [][]int // the beginning first
}

// newBook is a book of n clocks at 0.
func newBook(n int) *book {
	return &book{n: n, moments: [][]int{make([]int, n)}}
}

// last is what the clocks say now.
func (k *book) last() []int {
	return k.moments[len(k.moments)-1]
}

// tick is Tick of the book.
func (k *book) tick(i int) api.Errno {
	if i < 0 || i >= k.n {
		return api.ErrNone
	}
	next := slices.Clone(k.last())
	next[i]++
	k.moments = append(k.moments, next)
	return api.OK
}

// drift is the greatest difference between node i's ticks and node 0's over all stretches of time, one by one.
func (k *book) drift(i int) int {
	greatest := 0
	for a, from := range k.moments {
		for _, to := range k.moments[a:] {
			more := (to[i] - from[i]) - (to[0] - from[0])
			greatest = max(greatest, more, -more)
		}
	}
	return greatest
}

// strangers are nodes that aren't there, of n.
func strangers(n int) []int {
	return []int{math.MinInt, -1 << 32, -n, -1, n, n + 1, 8, 9, 1 << 32, math.MaxInt}
}

// look holds all that clocks tell against the book.
func look(t *testing.T, c *clock.Clocks, k *book) {
	t.Helper()
	worst := 0
	for i := range k.n {
		want := k.drift(i)
		if c.Now(i) != k.last()[i] || c.Drift(i) != want {
			t.Fatalf("node %d of %d behind %v: Now %d, Drift %d, not %d", i, k.n, k.moments, c.Now(i), c.Drift(i), want)
		}
		worst = max(worst, want)
	}
	if c.Worst() != worst {
		t.Fatalf("Worst behind %v: %d, not %d", k.moments, c.Worst(), worst)
	}
	for _, i := range strangers(k.n) {
		if c.Now(i) != -1 || c.Drift(i) != -1 {
			t.Fatalf("node %d of %d: Now %d, Drift %d", i, k.n, c.Now(i), c.Drift(i))
		}
	}
}

// both ticks clocks and the book.
func both(t *testing.T, c *clock.Clocks, k *book, i int) {
	t.Helper()
	if got, want := c.Tick(i), k.tick(i); got != want {
		t.Fatalf("Tick(%d) of %d: %d, not %d", i, k.n, got, want)
	}
}

// made is clocks that New makes without an error.
func made(t *testing.T, n int) *clock.Clocks {
	t.Helper()
	c, e := clock.New(n)
	if e != api.OK || c == nil {
		t.Fatalf("New(%d): %d", n, e)
	}
	return c
}

// P17.1: New and Play of every number of nodes, and of too few and too many.
func TestHowMany(t *testing.T) {
	for n := 1; n <= 8; n++ {
		look(t, made(t, n), newBook(n))
		c, e := clock.Play(n, nil)
		if e != api.OK {
			t.Fatalf("Play(%d): %d", n, e)
		}
		look(t, c, newBook(n))
	}
	wrong := map[int]api.Errno{
		math.MinInt: api.ErrArg, -8: api.ErrArg, -1: api.ErrArg, 0: api.ErrArg,
		9: api.ErrBig, 10: api.ErrBig, 1 << 32: api.ErrBig, math.MaxInt: api.ErrBig,
	}
	for n, want := range wrong {
		if c, e := clock.New(n); c != nil || e != want {
			t.Errorf("New(%d): %v, %d, not %d", n, c, e, want)
		}
		for _, ticks := range [][]int{nil, {0}, {0, 1, -1, 9}} {
			if c, e := clock.Play(n, ticks); c != nil || e != want {
				t.Errorf("Play(%d, %v): %v, %d, not %d", n, ticks, c, e, want)
			}
		}
	}
}

// P17.1: Tick of nodes at both ends and beside them, and what the clocks say behind it.
func TestTickEnds(t *testing.T) {
	for n := 1; n <= 8; n++ {
		c, k := made(t, n), newBook(n)
		for _, i := range append(strangers(n), 0, n-1, -1, n, n-1, n-1, 0) {
			both(t, c, k, i)
			look(t, c, k)
		}
	}
}

// P17.1, P17.2: every row of at most seven ticks of three nodes, one that isn't there among them; Play of it, too.
func TestEveryRow(t *testing.T) {
	var walk func(row []int)
	walk = func(row []int) {
		c, e := clock.Play(3, row)
		if e != api.OK {
			t.Fatalf("Play(3, %v): %d", row, e)
		}
		k := newBook(3)
		for _, i := range row {
			k.tick(i)
		}
		look(t, c, k)
		if len(row) == 7 {
			return
		}
		for i := -1; i < 3; i++ {
			walk(append(slices.Clone(row), i))
		}
	}
	walk(nil)
}

// P17.1, P17.2: long rows of ticks of any number of nodes, each at its own pace, and what they tell behind each tick.
func TestLongRows(t *testing.T) {
	for n := 1; n <= 8; n++ {
		for seed := range int64(6) {
			r := rand.New(rand.NewSource(seed))
			c, k := made(t, n), newBook(n)
			pace := r.Perm(n)
			for step := range 120 {
				if step%30 == 0 {
					pace = r.Perm(n)
				}
				i := pace[min(r.Intn(n), r.Intn(n))]
				if r.Intn(20) == 0 {
					i = strangers(n)[r.Intn(10)]
				}
				both(t, c, k, i)
				look(t, c, k)
			}
		}
	}
}

// P17.2: drift is of all stretches: what a clock made good again counts, both ways, and node 0's ticks alone make all others drift.
func TestDriftStays(t *testing.T) {
	rows := []struct {
		ticks []int
		drift []int
	}{
		{[]int{1, 1, 0, 0}, []int{0, 2, 2}},
		{[]int{0, 0, 1, 1}, []int{0, 2, 2}},
		{[]int{1, 1, 0, 0, 0, 0, 1, 1}, []int{0, 4, 4}},
		{[]int{0, 1, 0, 1, 0, 1}, []int{0, 1, 3}},
		{[]int{1, 0, 1, 0, 1, 0}, []int{0, 1, 3}},
		{[]int{0, 0, 0}, []int{0, 3, 3}},
		{[]int{2, 1, 2, 1}, []int{0, 2, 2}},
		{[]int{0, 0, 1, 1, 1, 1, 1}, []int{0, 5, 2}},
	}
	for _, x := range rows {
		c, _ := clock.Play(3, x.ticks)
		got := []int{c.Drift(0), c.Drift(1), c.Drift(2)}
		if !slices.Equal(got, x.drift) || c.Worst() != slices.Max(x.drift) {
			t.Errorf("%v: %v, %d, not %v", x.ticks, got, c.Worst(), x.drift)
		}
	}
}

// P17.1: nodes that aren't there change nothing of Play; what it is handed isn't changed, nor the spare room behind it, and isn't kept.
func TestPlayRow(t *testing.T) {
	all := []int{1, 9, 1, -1, 0, 2, 0, math.MinInt, 0, 77, 78}
	ticks := all[:9]
	was := slices.Clone(all)
	c, e := clock.Play(2, ticks)
	if e != api.OK || !slices.Equal(all, was) {
		t.Fatalf("Play: %d, %v", e, all)
	}
	k := newBook(2)
	for _, i := range []int{1, 1, 0, 0, 0} {
		k.tick(i)
	}
	look(t, c, k)
	for i := range all {
		all[i] = 0
	}
	look(t, c, k)
}

// P17.3: clocks, their copies, and copies of copies, each with ticks of its own.
func TestCopiesApart(t *testing.T) {
	for seed := range int64(30) {
		r := rand.New(rand.NewSource(seed))
		n := 1 + r.Intn(8)
		clocks, books := []*clock.Clocks{made(t, n)}, []*book{newBook(n)}
		for range 60 {
			i := r.Intn(len(clocks))
			if r.Intn(10) == 0 && len(clocks) < 6 {
				clocks = append(clocks, clocks[i].Copy())
				books = append(books, &book{n: n, moments: slices.Clone(books[i].moments)})
				continue
			}
			both(t, clocks[i], books[i], r.Intn(n+2)-1)
			for j := range clocks {
				look(t, clocks[j], books[j])
			}
		}
	}
}

// The chapter's example.
func TestExample(t *testing.T) {
	c, e := clock.Play(2, []int{1, 1, 0, 0, 0})
	if e != api.OK || c.Now(1) != 2 || c.Drift(1) != 3 || c.Drift(0) != 0 || c.Worst() != 3 {
		t.Errorf("%d, %d, %d, %d, %d", e, c.Now(1), c.Drift(1), c.Drift(0), c.Worst())
	}
}
