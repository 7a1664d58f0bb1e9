package trie_test

import (
	"math"
	"math/rand"
	"slices"
	"testing"

	"tiller/api"
	"tiller/trie"
)

// call is one call of a trie that may change it.
type call struct {
	name  string
	row   []int
	value int
}

// answer is what such a call answers; fields that it has not are zero.
type answer struct {
	is bool
	n  int
	e  api.Errno
}

// ask calls a trie.
func ask(x *trie.Trie, c call) answer {
	switch c.name {
	case "Put":
		is, e := x.Put(c.row, c.value)
		return answer{is: is, e: e}
	case "Drop":
		return answer{is: x.Drop(c.row)}
	}
	return answer{n: x.DropValue(c.value)}
}

// book is a trie as the chapter tells it: a list of rows, in the order in which they were put.
type book struct {
	rows []trie.Entry
}

// at is where a row stands in the book, or -1.
func (k *book) at(row []int) int {
	return slices.IndexFunc(k.rows, func(e trie.Entry) bool { return slices.Equal(e.Tokens, row) })
}

// put is Put of the book.
func (k *book) put(row []int, value int) answer {
	at := k.at(row)
	switch {
	case len(row) == 0:
		return answer{e: api.ErrNone}
	case len(row) > 128:
		return answer{e: api.ErrBig}
	case at >= 0:
		k.rows[at].Value = value
		return answer{}
	case len(k.rows) == 1000:
		return answer{e: api.ErrFull}
	}
	k.rows = append(k.rows, trie.Entry{Tokens: slices.Clone(row), Value: value})
	return answer{is: true}
}

// ask calls the book.
func (k *book) ask(c call) answer {
	before := len(k.rows)
	switch c.name {
	case "Put":
		return k.put(c.row, c.value)
	case "Drop":
		k.rows = slices.DeleteFunc(k.rows, func(e trie.Entry) bool { return slices.Equal(e.Tokens, c.row) })
		return answer{is: len(k.rows) < before}
	}
	k.rows = slices.DeleteFunc(k.rows, func(e trie.Entry) bool { return e.Value == c.value })
	return answer{n: before - len(k.rows)}
}

// get is Get of the book.
func (k *book) get(row []int) (int, bool) {
	if at := k.at(row); at >= 0 {
		return k.rows[at].Value, true
	}
	return 0, false
}

// longest is Longest of the book: each row is held against the beginning of tokens that is as long.
func (k *book) longest(tokens []int) (int, int) {
	n, value := 0, 0
	for _, e := range k.rows {
		if len(e.Tokens) > n && len(e.Tokens) <= len(tokens) && slices.Equal(e.Tokens, tokens[:len(e.Tokens)]) {
			n, value = len(e.Tokens), e.Value
		}
	}
	return n, value
}

// ahead tells whether row a comes ahead of row b: at the first place where they part the lesser number, or it is b's beginning.
func ahead(a, b []int) bool {
	for i := range a {
		if i >= len(b) {
			return false
		}
		if a[i] != b[i] {
			return a[i] < b[i]
		}
	}
	return len(a) < len(b)
}

// all is All of the book: each row stands behind those that come ahead of it.
func (k *book) all() []trie.Entry {
	l := make([]trie.Entry, len(k.rows))
	for _, e := range k.rows {
		place := 0
		for _, o := range k.rows {
			if ahead(o.Tokens, e.Tokens) {
				place++
			}
		}
		l[place] = e
	}
	return l
}

// sameRows tells whether two lists have the same rows and values in the same order.
func sameRows(a, b []trie.Entry) bool {
	return slices.EqualFunc(a, b, func(x, y trie.Entry) bool {
		return x.Value == y.Value && slices.Equal(x.Tokens, y.Tokens)
	})
}

// look holds all that a trie tells against the book; it asks of the given rows.
func look(t *testing.T, x *trie.Trie, k *book, rows [][]int) {
	t.Helper()
	if x.Count() != len(k.rows) {
		t.Fatalf("Count: %d, not %d", x.Count(), len(k.rows))
	}
	if got, want := x.All(), k.all(); !sameRows(got, want) {
		t.Fatalf("All: %v, not %v", got, want)
	}
	for _, row := range rows {
		v, ok := x.Get(row)
		if want, there := k.get(row); v != want || ok != there {
			t.Fatalf("Get(%v): %d, %t, not %d, %t", row, v, ok, want, there)
		}
		n, v := x.Longest(row)
		if length, want := k.longest(row); n != length || v != want {
			t.Fatalf("Longest(%v): %d, %d, not %d, %d", row, n, v, length, want)
		}
	}
}

// replayed is a trie, and a book, behind a row of calls.
func replayed(t *testing.T, l []call) (*trie.Trie, *book) {
	t.Helper()
	x, k := &trie.Trie{}, &book{}
	for _, c := range l {
		if got, want := ask(x, c), k.ask(c); got != want {
			t.Fatalf("%v of %v: %v, not %v", c, l, got, want)
		}
	}
	return x, k
}

// rowsUpTo are all rows of at most n of the numbers, the empty one too.
func rowsUpTo(n int, numbers []int) [][]int {
	l := [][]int{nil}
	for from := 0; n > 0; n-- {
		to := len(l)
		for _, row := range l[from:to] {
			for _, k := range numbers {
				l = append(l, append(slices.Clone(row), k))
			}
		}
		from = to
	}
	return l
}

// P13.1, P13.2: every row of four calls of some rows that begin one another, and that part.
func TestEveryRow(t *testing.T) {
	rows := rowsUpTo(3, []int{0, 1})
	calls := []call{{"DropValue", nil, 0}, {"DropValue", nil, 5}, {"Put", nil, 5}, {"Drop", nil, 0}}
	for _, row := range [][]int{{0}, {1}, {0, 1}, {0, 0, 1}, {0, 1, 1}} {
		calls = append(calls, call{"Put", row, 0}, call{"Put", row, 5}, call{"Drop", row, 0})
	}
	var walk func(l []call)
	walk = func(l []call) {
		x, k := replayed(t, l)
		look(t, x, k, rows)
		if t.Failed() || len(l) == 4 {
			return
		}
		for _, c := range calls {
			walk(append(slices.Clone(l), c))
		}
	}
	walk(nil)
}

// edges are numbers that rows are made of: below 0, 0, and as great and as small as int holds.
var edges = []int{math.MinInt, math.MinInt + 1, math.MinInt32, -64, -1, 0, 1, 63, 64, math.MaxInt32, 1 << 32, math.MaxInt - 1, math.MaxInt}

// someRow is any row of at most most numbers; most often it begins like one that is there.
func someRow(r *rand.Rand, k *book, most int, numbers []int) []int {
	var row []int
	if len(k.rows) > 0 && r.Intn(3) > 0 {
		like := k.rows[r.Intn(len(k.rows))].Tokens
		row = slices.Clone(like[:r.Intn(len(like)+1)])
	}
	for n := r.Intn(most + 1); len(row) < n; {
		row = append(row, numbers[r.Intn(len(numbers))])
	}
	return row
}

// someCall is any call.
func someCall(r *rand.Rand, k *book, most int, numbers []int) call {
	c := call{name: []string{"Put", "Put", "Put", "Put", "Drop", "Drop"}[r.Intn(6)], row: someRow(r, k, most, numbers), value: r.Intn(9) - 1}
	if r.Intn(12) == 0 {
		c.name, c.row = "DropValue", nil
	}
	if c.name == "Drop" && len(k.rows) > 0 && r.Intn(2) == 0 {
		c.row = slices.Clone(k.rows[r.Intn(len(k.rows))].Tokens)
	}
	return c
}

// P13.1, P13.2: long rows of calls.
func TestLongRows(t *testing.T) {
	for _, most := range []int{1, 2, 5, 20, 128, 140} {
		for seed := range int64(12) {
			r := rand.New(rand.NewSource(seed))
			numbers := [][]int{{0, 1}, {7}, edges, {-1, 0, 1, 2, 3, 4, 5, 6}}[seed%4]
			x, k := &trie.Trie{}, &book{}
			for range 200 {
				c := someCall(r, k, most, numbers)
				if got, want := ask(x, c), k.ask(c); got != want {
					t.Fatalf("%v: %v, not %v", c, got, want)
				}
				look(t, x, k, [][]int{nil, c.row, someRow(r, k, most, numbers), someRow(r, k, 2*most, numbers), append(slices.Clone(c.row), numbers...)})
			}
		}
	}
}

// P13.1: a call with an error, and one that drops nothing, changes nothing: without them the trie is the same.
func TestErrorsChangeNothing(t *testing.T) {
	for seed := range int64(20) {
		r := rand.New(rand.NewSource(seed))
		x, k := &trie.Trie{}, &book{}
		var right []call
		wrong := 0
		for range 200 {
			c := someCall(r, k, 140, []int{0, 1})
			a := ask(x, c)
			k.ask(c)
			if a.e != api.OK && a.is {
				t.Fatalf("%v: true beside an error", c)
			}
			if a.e != api.OK || c.name == "Drop" && !a.is || c.name == "DropValue" && a.n == 0 {
				wrong++
				continue
			}
			right = append(right, c)
		}
		if wrong == 0 {
			t.Fatal("no call without an effect")
		}
		_, k = replayed(t, right)
		look(t, x, k, nil)
	}
}

// line is a row of n numbers, all the same.
func line(n, number int) []int {
	return slices.Repeat([]int{number}, n)
}

// put puts a row that is new.
func put(t *testing.T, x *trie.Trie, row []int, value int) {
	t.Helper()
	if is, e := x.Put(row, value); !is || e != api.OK {
		t.Fatalf("Put(%v, %d): %t, %d", row, value, is, e)
	}
}

// P13.1: rows of no number, one, MaxTokens and one more.
func TestLengths(t *testing.T) {
	for _, number := range edges {
		x, k := &trie.Trie{}, &book{}
		rows := [][]int{nil, {}}
		for _, n := range []int{1, 2, 64, 127, 128, 129, 130, 256, 4096} {
			rows = append(rows, line(n, number))
		}
		for _, row := range rows {
			got, want := ask(x, call{"Put", row, len(row)}), k.ask(call{"Put", row, len(row)})
			if got != want {
				t.Errorf("Put of %d numbers: %v, not %v", len(row), got, want)
			}
			look(t, x, k, rows)
		}
		if x.Count() != 5 {
			t.Errorf("Count: %d", x.Count())
		}
		for _, row := range rows {
			if is := x.Drop(row); is != (len(row) >= 1 && len(row) <= 128) {
				t.Errorf("Drop of %d numbers: %t", len(row), is)
			}
		}
		look(t, x, &book{}, rows)
	}
}

// P13.1: the zero Trie has no rows.
func TestZero(t *testing.T) {
	var x trie.Trie
	rows := [][]int{nil, {}, {0}, {1, 2}, line(128, 0), line(129, 0)}
	look(t, &x, &book{}, rows)
	for _, row := range rows {
		if x.Drop(row) {
			t.Errorf("Drop(%v)", row)
		}
	}
	if n := x.DropValue(0); n != 0 {
		t.Errorf("DropValue(0): %d", n)
	}
	look(t, &x, &book{}, rows)
}

// P13.1: a row put twice has the later value, whichever values they are; it counts once.
func TestTwice(t *testing.T) {
	for _, first := range edges {
		for _, then := range edges {
			var x trie.Trie
			put(t, &x, []int{1, 2}, first)
			put(t, &x, []int{1}, first)
			if is, e := x.Put([]int{1, 2}, then); is || e != api.OK {
				t.Errorf("again: %t, %d", is, e)
			}
			if v, ok := x.Get([]int{1, 2}); v != then || !ok {
				t.Errorf("Get: %d, %t, not %d", v, ok, then)
			}
			if v, ok := x.Get([]int{1}); v != first || !ok || x.Count() != 2 {
				t.Errorf("Get of the other: %d, %t; Count %d", v, ok, x.Count())
			}
			want := 1
			if first == then {
				want = 2
			}
			if n := x.DropValue(first); n != want || x.Count() != 2-want {
				t.Errorf("DropValue(%d) behind %d: %d", first, then, n)
			}
		}
	}
}

// P13.1: rows that part at the first, a middle and the last number are rows of their own.
func TestPart(t *testing.T) {
	base := []int{5, 6, 7, 8, 9}
	for place := range base {
		for _, number := range edges {
			other := slices.Clone(base)
			other[place] = number
			l := []call{{"Put", base, 1}, {"Put", other, 2}, {"Put", base[:place+1], 3}, {"Put", other[:place+1], 4}}
			rows := [][]int{base, other, base[:place], base[:place+1], other[:place+1], append(slices.Clone(other), 1)}
			for n := range l {
				x, k := replayed(t, l[:n+1])
				look(t, x, k, rows)
			}
			for _, c := range l {
				x, k := replayed(t, append(slices.Clone(l), call{"Drop", c.row, 0}))
				look(t, x, k, rows)
			}
		}
	}
}

// P13.1: MaxEntries rows: a new one is refused, those that are there are not; the errors in their order.
func TestFull(t *testing.T) {
	if trie.MaxEntries != 1000 {
		t.Fatalf("MaxEntries is %d", trie.MaxEntries)
	}
	x, k := &trie.Trie{}, &book{}
	row := func(i int) []int { return []int{i % 10, i / 10 % 10, i / 100, 1} }
	for i := range 999 {
		put(t, x, row(i), i)
		k.put(row(i), i)
	}
	there := append([][]int{nil, {0}, {0, 0}, {0, 0, 0}, {9, 9, 9, 1, 5}, {9, 9, 9}, {10}}, row(0), row(500), row(998), row(999), line(129, 0))
	for range 2 {
		for _, c := range []call{{"Put", row(0), 7}, {"Put", nil, 7}, {"Put", line(129, 0), 7}, {"Put", row(998), 8}} {
			if got, want := ask(x, c), k.ask(c); got != want {
				t.Errorf("at %d rows, Put of %d numbers: %v, not %v", x.Count(), len(c.row), got, want)
			}
		}
		look(t, x, k, there)
		ask(x, call{"Put", row(999), 1})
		k.put(row(999), 1)
	}
	for _, c := range []call{{"Put", []int{0}, 1}, {"Put", []int{10}, 1}, {"Put", []int{0, 0, 0}, 1}, {"Put", []int{9, 9, 9, 1, 5}, 1}, {"Put", line(128, 0), 1}} {
		if a := ask(x, c); a != (answer{e: api.ErrFull}) {
			t.Errorf("one more, %v: %v", c.row, a)
		}
	}
	if x.Count() != 1000 {
		t.Errorf("Count: %d", x.Count())
	}
	look(t, x, k, there)
	for _, c := range []call{{"Drop", row(37), 0}, {"Put", []int{0, 0}, 5}, {"Put", row(37), 6}, {"DropValue", nil, 5}, {"Put", row(37), 6}, {"Put", []int{10}, 6}} {
		if got, want := ask(x, c), k.ask(c); got != want {
			t.Errorf("%v: %v, not %v", c, got, want)
		}
	}
	look(t, x, k, there)
}

// P13.1: Drop of a row that isn't there, that begins one that is, that is longer than one, and that was dropped.
func TestDrop(t *testing.T) {
	x, k := replayed(t, []call{{"Put", []int{1, 2, 3}, 7}, {"Put", []int{1, 2, 4}, 8}})
	rows := rowsUpTo(4, []int{1, 2, 3, 4})
	for _, row := range [][]int{nil, {}, {1}, {1, 2}, {2}, {1, 2, 5}, {1, 2, 3, 4}, {1, 3, 3}, {0, 2, 3}, line(129, 1)} {
		if x.Drop(row) {
			t.Errorf("Drop(%v)", row)
		}
		look(t, x, k, rows)
	}
	if !x.Drop([]int{1, 2, 3}) || x.Drop([]int{1, 2, 3}) {
		t.Error("Drop of a row that is there, and again")
	}
	look(t, x, &book{rows: []trie.Entry{{Tokens: []int{1, 2, 4}, Value: 8}}}, rows)
	put(t, x, []int{1, 2, 3}, 0)
	look(t, x, &book{rows: []trie.Entry{{Tokens: []int{1, 2, 4}, Value: 8}, {Tokens: []int{1, 2, 3}, Value: 0}}}, rows)
}

// P13.1: a beginning that is dropped leaves what is longer, and the other way about.
func TestDropBeginning(t *testing.T) {
	long := []int{3, 1, 4, 1, 5}
	for gone := range long {
		x, k := &trie.Trie{}, &book{}
		for n := range long {
			put(t, x, long[:n+1], n)
			k.put(long[:n+1], n)
		}
		if !x.Drop(long[:gone+1]) {
			t.Errorf("Drop(%v)", long[:gone+1])
		}
		k.ask(call{"Drop", long[:gone+1], 0})
		look(t, x, k, [][]int{nil, long[:1], long[:2], long[:3], long[:4], long})
	}
}

// P13.1: DropValue of a value that no row, one row and many rows have.
func TestDropValue(t *testing.T) {
	for _, value := range edges {
		var l []call
		rows := rowsUpTo(3, []int{0, 1, 2})
		for i, row := range rows[1:] {
			v := 40
			if i%3 == 1 {
				v = value
			}
			l = append(l, call{"Put", row, v})
		}
		l = append(l, call{"Put", []int{9}, 41})
		for _, c := range []call{{"DropValue", nil, 42}, {"DropValue", nil, 41}, {"DropValue", nil, value}, {"DropValue", nil, 40}} {
			x, k := replayed(t, append(slices.Clone(l), c))
			look(t, x, k, rows)
			x, k = replayed(t, append(slices.Clone(l), c, c, call{"Put", []int{9}, value}, call{"DropValue", nil, value}))
			look(t, x, k, rows)
		}
	}
	var x trie.Trie
	for i := range 1000 {
		put(t, &x, []int{i / 100, i}, 3)
	}
	if n := x.DropValue(4); n != 0 || x.Count() != 1000 {
		t.Errorf("DropValue of none: %d", n)
	}
	if n := x.DropValue(3); n != 1000 || x.Count() != 0 || len(x.All()) != 0 {
		t.Errorf("DropValue of all: %d; Count %d", n, x.Count())
	}
	put(t, &x, []int{0}, 3)
}

// P13.2: of rows that begin one another the longest is found, of tokens of any length.
func TestLongest(t *testing.T) {
	for _, number := range edges {
		x, k := &trie.Trie{}, &book{}
		for _, n := range []int{1, 3, 127, 128} {
			put(t, x, line(n, number), -n)
			k.put(line(n, number), -n)
		}
		rows := [][]int{nil, {}, {number ^ 1}, {number, number ^ 1}}
		for _, n := range []int{1, 2, 3, 4, 5, 126, 127, 128, 129, 130, 1000, 100000} {
			rows = append(rows, line(n, number), append(line(n, number), number^1))
		}
		look(t, x, k, rows)
		for n := 128; n > 0; n-- {
			x.Drop(line(n, number))
			k.ask(call{"Drop", line(n, number), 0})
			look(t, x, k, rows)
		}
	}
}

// P13.2: a row with value 0 is told from none by its length.
func TestLongestNought(t *testing.T) {
	var x trie.Trie
	put(t, &x, []int{4, 5}, 0)
	put(t, &x, []int{4}, 9)
	if n, v := x.Longest([]int{4, 5, 6}); n != 2 || v != 0 {
		t.Errorf("Longest: %d, %d", n, v)
	}
	x.Drop([]int{4, 5})
	if n, v := x.Longest([]int{4, 5, 6}); n != 1 || v != 9 {
		t.Errorf("Longest: %d, %d", n, v)
	}
	x.Drop([]int{4})
	if n, v := x.Longest([]int{4, 5, 6}); n != 0 || v != 0 {
		t.Errorf("Longest: %d, %d", n, v)
	}
}

// P13.1: rows put in any order are told in order; each time in the same way.
func TestAnyOrder(t *testing.T) {
	rows := rowsUpTo(3, []int{math.MinInt, -1, 0, 2, 10, math.MaxInt})[1:]
	var first []trie.Entry
	for seed := range int64(8) {
		r := rand.New(rand.NewSource(seed))
		x, k := &trie.Trie{}, &book{}
		for _, i := range r.Perm(len(rows)) {
			put(t, x, rows[i], i)
			k.put(rows[i], i)
		}
		for range 3 {
			look(t, x, k, nil)
		}
		if first == nil {
			first = x.All()
		}
		if !sameRows(first, x.All()) {
			t.Fatal("another order")
		}
		for _, i := range r.Perm(len(rows))[:100] {
			if !x.Drop(rows[i]) {
				t.Fatalf("Drop(%v)", rows[i])
			}
			k.ask(call{"Drop", rows[i], 0})
		}
		look(t, x, k, rows)
	}
}

// P13.1: what is only asked changes nothing.
func TestAskingChangesNothing(t *testing.T) {
	x, k := replayed(t, []call{{"Put", []int{1, 2}, 7}, {"Put", []int{1, 2, 3, 4}, 8}, {"Put", []int{0}, 8}})
	rows := append(rowsUpTo(4, []int{0, 1, 2, 3, 4}), line(200, 1))
	for range 3 {
		look(t, x, k, rows)
	}
	for _, row := range rows {
		x.Get(row)
		x.Longest(row)
	}
	if x.Count() != 3 || x.DropValue(8) != 2 || x.DropValue(8) != 0 {
		t.Error("asking changed something")
	}
}

// The chapter's example.
func TestExample(t *testing.T) {
	var x trie.Trie
	put(t, &x, []int{1, 2}, 7)
	put(t, &x, []int{1, 2, 3, 4}, 8)
	for _, c := range []struct {
		row  []int
		n, v int
	}{{[]int{1, 2, 3}, 2, 7}, {[]int{1, 2, 3, 4, 5}, 4, 8}, {[]int{2}, 0, 0}} {
		if n, v := x.Longest(c.row); n != c.n || v != c.v {
			t.Errorf("Longest(%v): %d, %d", c.row, n, v)
		}
	}
	if n := x.DropValue(7); n != 1 {
		t.Errorf("DropValue: %d", n)
	}
	if n, v := x.Longest([]int{1, 2, 3}); n != 0 || v != 0 {
		t.Errorf("Longest: %d, %d", n, v)
	}
}
