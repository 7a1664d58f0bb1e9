package trie

import "testing"

// nodes is how many beginnings a node keeps behind itself.
func nodes(n *node) int {
	count := 0
	for _, after := range n.next {
		count += 1 + nodes(after)
	}
	return count
}

// No more is kept than the rows that are there need: of a row that is gone no beginning stays, but what others begin with.
func TestKept(t *testing.T) {
	var x Trie
	keeps := func(want int) {
		t.Helper()
		if got := nodes(&x.root); got != want {
			t.Errorf("%d beginnings, not %d", got, want)
		}
	}
	x.Put([]int{1, 2, 3, 4}, 5)
	x.Put([]int{1, 2}, 6)
	x.Put([]int{1, 2, 3, 5}, 5)
	keeps(5)
	x.Drop([]int{1, 2, 3})
	x.Get([]int{7, 8})
	x.Longest([]int{1, 9})
	x.Put(nil, 1)
	x.Put(make([]int, 129), 1)
	keeps(5)
	x.Drop([]int{1, 2})
	keeps(5)
	x.Drop([]int{1, 2, 3, 4})
	keeps(4)
	x.Put([]int{1}, 6)
	x.DropValue(5)
	keeps(1)
	x.Drop([]int{1})
	keeps(0)
	for i := range MaxEntries {
		x.Put([]int{i, i}, i)
	}
	x.Put([]int{1, 2, 3}, 1)
	x.Put([]int{-1}, 1)
	keeps(2 * MaxEntries)
}
