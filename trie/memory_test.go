package trie_test

import (
	"math/rand"
	"slices"
	"testing"

	"tiller/trie"
)

// roomy is a row with spare room behind it, full of 77.
func roomy(row []int) []int {
	l := append(slices.Clone(row), line(8, 77)...)
	return l[:len(row)]
}

// spoilt tells whether a roomy row, or the room behind it, isn't as it was.
func spoilt(l, row []int) bool {
	return !slices.Equal(l, row) || !slices.Equal(l[len(l):len(l)+8], line(8, 77))
}

// overwrite puts a number into all of a list, and into the room behind it.
func overwrite(l []int, number int) {
	l = l[:cap(l)]
	for i := range l {
		l[i] = number
	}
}

// P13.3: what is handed in isn't changed, nor the room behind it.
func TestHandedInUnchanged(t *testing.T) {
	var x trie.Trie
	for _, row := range [][]int{nil, {}, {1}, {1, 2, 3}, {1, 2}, {2}, {1, 2, 3, 4}, line(128, 1), line(129, 1)} {
		for range 2 {
			l := roomy(row)
			x.Put(l, 4)
			x.Get(l)
			x.Longest(l)
			x.All()
			if spoilt(l, row) {
				t.Errorf("%v was changed: %v", row, l[:cap(l)])
			}
		}
	}
	for _, row := range [][]int{nil, {1}, {1}, {1, 2, 3}, {5}, line(128, 1), line(129, 1)} {
		l := roomy(row)
		x.Drop(l)
		x.DropValue(5)
		if spoilt(l, row) {
			t.Errorf("Drop changed %v: %v", row, l[:cap(l)])
		}
	}
}

// P13.3: a row that was handed in isn't kept: what becomes of it later changes no trie.
func TestHandedInNotKept(t *testing.T) {
	for seed := range int64(10) {
		r := rand.New(rand.NewSource(seed))
		x, k := &trie.Trie{}, &book{}
		for range 100 {
			c := someCall(r, k, 12, []int{0, 1, 2})
			k.ask(c)
			l := roomy(c.row)
			ask(x, call{c.name, l, c.value})
			l = append(l, 1, 2)
			overwrite(l, 1)
			look(t, x, k, nil)
		}
	}
}

// P13.3: one list that rows are made in, again and again.
func TestOneList(t *testing.T) {
	x, k := &trie.Trie{}, &book{}
	list := make([]int, 6)
	for i := range 300 {
		for j := range list {
			list[j] = i * (j + 3) % 5
		}
		row := list[i%3 : i%3+1+i%4]
		k.put(row, i)
		x.Put(row, i)
	}
	overwrite(list, 9)
	look(t, x, k, nil)
}

// P13.3: answers are new memory: a change of one changes no trie, no other answer, and no other row of it.
func TestAnswersApart(t *testing.T) {
	rows := rowsUpTo(3, []int{0, 1, 2})[1:]
	rows = append(rows, line(127, 1), line(128, 1))
	x, k := &trie.Trie{}, &book{}
	for i, row := range rows {
		put(t, x, row, i)
		k.put(row, i)
	}
	want := k.all()
	for i := range want {
		first, then := x.All(), x.All()
		overwrite(first[i].Tokens, 77)
		first[i].Tokens = append(first[i].Tokens, 78)
		first[i].Value = 77
		if !sameRows(then, want) {
			t.Fatalf("row %d of an answer changed another answer", i)
		}
		look(t, x, k, [][]int{want[i].Tokens, first[i].Tokens})
		first[i] = then[i]
		if !sameRows(first, want) {
			t.Fatalf("row %d of an answer changed the others", i)
		}
		clear(then[:cap(then)])
		look(t, x, k, nil)
	}
	last := x.All()
	x.Drop([]int{0})
	x.Put([]int{1}, 99)
	x.DropValue(5)
	if !sameRows(last, want) {
		t.Error("later calls changed an answer")
	}
}

// P13.3: two tries side by side are apart.
func TestTwoTries(t *testing.T) {
	for seed := range int64(10) {
		r := rand.New(rand.NewSource(seed))
		var x, y trie.Trie
		k, j := &book{}, &book{}
		for range 200 {
			c := someCall(r, k, 4, []int{0, 1})
			if r.Intn(2) == 0 {
				if got, want := ask(&x, c), k.ask(c); got != want {
					t.Fatalf("%v: %v, not %v", c, got, want)
				}
			} else if got, want := ask(&y, c), j.ask(c); got != want {
				t.Fatalf("%v: %v, not %v", c, got, want)
			}
			look(t, &x, k, [][]int{c.row})
			look(t, &y, j, [][]int{c.row})
		}
	}
}
