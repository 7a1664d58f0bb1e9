package block_test

import (
	"math"
	"slices"
	"testing"

	"tiller/api"
	"tiller/block"
	"tiller/pass"
	"tiller/step"
)

// roomyRow is the same row with spare room behind it, filled with 77.
func roomyRow[T int | api.Num](row []T) []T {
	return append(slices.Clone(row), 77, 77, 77)[:len(row)]
}

// roomyLists are the same lists with spare room behind each list and row, filled with 77.
func roomyLists(lists [][][]api.Num) [][][]api.Num {
	var l [][][]api.Num
	for _, rows := range lists {
		var x [][]api.Num
		for _, row := range rows {
			x = append(x, roomyRow(row))
		}
		l = append(l, append(x, []api.Num{77}, []api.Num{77})[:len(rows)])
	}
	return append(l, [][]api.Num{{77}}, [][]api.Num{{77}})[:len(lists)]
}

// roomy is the same block with spare room behind each list, filled with 77.
func roomy(b block.Block) block.Block {
	return block.Block{Tokens: roomyRow(b.Tokens), From: b.From, Cache: pass.Cache{Keys: roomyLists(b.Cache.Keys), Vals: roomyLists(b.Cache.Vals)}}
}

// rowStays tells whether a roomy row, and the room behind it, is as it was.
func rowStays[T int | api.Num](row, was []T) bool {
	return slices.Equal(row, was) && slices.Equal(row[len(row):len(row)+3], []T{77, 77, 77})
}

// listStays tells whether a roomy list of rows, and the room behind it, is as it was.
func listStays(rows, was [][]api.Num) bool {
	return slices.EqualFunc(rows, was, rowStays[api.Num]) && alike(rows[len(rows):len(rows)+2], [][]api.Num{{77}, {77}})
}

// listsStay tells whether roomy lists, and the room behind them, are as they were.
func listsStay(l, was [][][]api.Num) bool {
	return slices.EqualFunc(l, was, listStays) && slices.EqualFunc(l[len(l):len(l)+2], [][][]api.Num{{{77}}, {{77}}}, alike)
}

// stays tells whether a roomy block, and the room behind its lists, is as it was.
func stays(b, was block.Block) bool {
	return b.From == was.From && rowStays(b.Tokens, was.Tokens) && listsStay(b.Cache.Keys, was.Cache.Keys) && listsStay(b.Cache.Vals, was.Cache.Vals)
}

// asBlock is a view as a block, for what is done with both.
func asBlock(v step.View) block.Block {
	return block.Block{Tokens: v.Tokens, Cache: v.Cache}
}

// marked fills lists, with the room behind each, with a mark for each list, and tells whether each has its own mark then: no two share memory.
func marked[T any](lists [][]T, mark func(k int) T, is func(x T, k int) bool) bool {
	for k, l := range lists {
		l = l[:cap(l)]
		for i := range l {
			l[i] = mark(k)
		}
	}
	for k, l := range lists {
		if slices.ContainsFunc(l[:cap(l)], func(x T) bool { return !is(x, k) }) {
			return false
		}
	}
	return true
}

// overwrite changes blocks in all their lists, with the room behind them, and tells whether no two of them share memory.
func overwrite(l []block.Block) bool {
	var tokens [][]int
	var rows [][]api.Num
	var lists [][][]api.Num
	var halves [][][][]api.Num
	for _, b := range l {
		tokens = append(tokens, b.Tokens)
		halves = append(halves, b.Cache.Keys, b.Cache.Vals)
		lists = append(lists, slices.Concat(b.Cache.Keys, b.Cache.Vals)...)
	}
	for _, list := range lists {
		rows = append(rows, list...)
	}
	apart := marked(tokens, func(k int) int { return k }, func(x, k int) bool { return x == k })
	apart = marked(rows, func(k int) api.Num { return api.Num(k) }, func(x api.Num, k int) bool { return x == api.Num(k) }) && apart
	apart = marked(lists, func(k int) []api.Num { return []api.Num{api.Num(k)} }, func(x []api.Num, k int) bool { return len(x) == 1 && x[0] == api.Num(k) }) && apart
	return marked(halves, func(k int) [][]api.Num { return [][]api.Num{{api.Num(k)}} }, func(x [][]api.Num, k int) bool { return len(x) == 1 && x[0][0] == api.Num(k) }) && apart
}

// cloneAll are the same blocks in their own memory.
func cloneAll(l []block.Block) []block.Block {
	var x []block.Block
	for _, b := range l {
		x = append(x, clone(b))
	}
	return x
}

// ways are the calls that answer lists, of a roomy view and its roomy blocks, the answers as blocks.
func ways(t *testing.T, c api.Config, v step.View, page int, l []block.Block) map[string]func() []block.Block {
	s := text(t, c, l[len(l)-1])
	return map[string]func() []block.Block{
		"Split": func() []block.Block { return split(t, c, v, page) },
		"Join": func() []block.Block {
			x, e := block.Join(c, l)
			if e != api.OK {
				t.Fatalf("Join: %d", e)
			}
			return []block.Block{asBlock(x)}
		},
		"Read": func() []block.Block {
			b, e := block.Read(c, s)
			if e != api.OK {
				t.Fatalf("Read: %d", e)
			}
			return []block.Block{b}
		},
		"Bytes": func() []block.Block {
			if text(t, c, l[len(l)-1]) != s {
				t.Fatalf("Bytes: not the same again")
			}
			return nil
		},
		"Check": func() []block.Block {
			if e := block.Check(c, l[0]); e != api.OK {
				t.Fatalf("Check: %d", e)
			}
			return nil
		},
	}
}

// P11.3: nothing that is handed in is changed, nor the room behind it; answers share no memory with it, with each other, nor within.
func TestKeepsApart(t *testing.T) {
	for i, c := range sound() {
		for _, n := range []int{1, 6, 33} {
			for _, page := range []int{1, 3, 4, 16} {
				wasV := someView(c, n, uint32(i))
				v := roomy(asBlock(wasV))
				wasL := split(t, c, wasV, page)
				var l []block.Block
				for _, b := range wasL {
					l = append(l, roomy(b))
				}
				l = append(l, block.Block{From: 77})[:len(l)]
				for name, ask := range ways(t, c, step.View{Tokens: v.Tokens, Cache: v.Cache}, page, l) {
					first, second := ask(), ask()
					want := cloneAll(first)
					if !overwrite(first) {
						t.Errorf("%v: %s of %d tokens: parts of one answer share memory", c, name, n)
					}
					if !slices.EqualFunc(second, want, equal) {
						t.Errorf("%v: %s of %d tokens: answers share memory", c, name, n)
					}
					if !stays(v, asBlock(wasV)) || !slices.EqualFunc(l, wasL, stays) || l[:len(l)+1][len(l)].From != 77 {
						t.Fatalf("%v: %s of %d tokens: what was handed in was changed", c, name, n)
					}
					if third := ask(); !slices.EqualFunc(third, want, equal) {
						t.Errorf("%v: %s of %d tokens: not the same again", c, name, n)
					}
				}
			}
		}
	}
}

// P11.3: a later change of what was handed in changes no answer.
func TestKeepsNothing(t *testing.T) {
	c := config(5, 4, 2, 6, 2)
	was := someView(c, 11, 2)
	for name := range ways(t, c, was, 4, split(t, c, was, 4)) {
		v := cloneView(was)
		l := cloneAll(split(t, c, v, 4))
		answer := ways(t, c, v, 4, l)[name]()
		want := cloneAll(answer)
		overwrite(append(l, asBlock(v)))
		for i := range l {
			l[i].From = 99
		}
		if !slices.EqualFunc(answer, want, equal) {
			t.Errorf("%s: hangs on what was handed in", name)
		}
	}
}

// P11.3: lists of what is handed in may be one and the same memory.
func TestSharedLists(t *testing.T) {
	c := config(5, 4, 2, 6, 2)
	was := []api.Num{65536, -5, 7, 90000}
	row := slices.Clone(was)
	rows := [][]api.Num{row, row, row, row}
	lists := [][][]api.Num{rows, rows}
	tokens := []int{1, 1, 1, 1, 1, 1, 1, 1}
	one := block.Block{Tokens: tokens[:4], Cache: pass.Cache{Keys: lists, Vals: lists}}
	two := block.Block{Tokens: tokens, From: 4, Cache: pass.Cache{Keys: lists, Vals: lists}}
	for name, ask := range ways(t, c, step.View{Tokens: tokens[:4], Cache: one.Cache}, 2, []block.Block{one, two}) {
		answer := ask()
		if name == "Join" && (len(answer[0].Tokens) != 8 || len(answer[0].Cache.Keys[1]) != 8 || !slices.Equal(answer[0].Cache.Vals[0][7], was)) {
			t.Errorf("Join: another view")
		}
		if !overwrite(answer) {
			t.Errorf("%s: parts of one answer share memory", name)
		}
		if !slices.Equal(row, was) || slices.ContainsFunc(tokens, func(x int) bool { return x != 1 }) || len(rows[3]) != 4 || len(lists[1]) != 4 {
			t.Fatalf("%s: what was handed in was changed", name)
		}
	}
}

// P11.3: beside an error nothing that is handed in is changed.
func TestErrorsKeepApart(t *testing.T) {
	c := config(5, 4, 2, 6, 2)
	wasV := someView(c, 23, 3)
	v := roomy(asBlock(wasV))
	wasL := split(t, c, wasV, 4)
	var l []block.Block
	for _, b := range wasL {
		l = append(l, roomy(b))
	}
	for _, other := range []api.Config{c, config(5, 5, 1, 1, 2), config(1, 4, 1, 1, 2), config(5, 4, 1, 1, 3), {}} {
		for _, page := range []int{0, 4, 17} {
			block.Split(other, step.View{Tokens: v.Tokens, Cache: v.Cache}, page)
		}
		block.Join(other, l[1:])
		block.Join(other, []block.Block{l[0], l[1], l[3]})
		block.Join(other, []block.Block{l[0], l[1], l[1]})
		block.Bytes(other, l[2])
		block.Check(other, l[2])
	}
	if !stays(v, asBlock(wasV)) || !slices.EqualFunc(l, wasL, stays) {
		t.Errorf("what was handed in was changed")
	}
}

// P11.1, P11.2: no call panics, whatever it is given.
func TestAnything(t *testing.T) {
	row := []api.Num{1, 2}
	blocks := []block.Block{
		{}, {From: -1}, {Tokens: []int{1}}, {Tokens: []int{1}, From: 1}, {Tokens: []int{-7, math.MaxInt, math.MinInt}, From: math.MinInt}, {Tokens: []int{1, 2}, From: math.MaxInt, Cache: pass.Cache{Keys: [][][]api.Num{{row}, nil}}},
		{Tokens: []int{1, 2}, Cache: pass.Cache{Keys: [][][]api.Num{nil, {row, nil}}, Vals: [][][]api.Num{{row}, {row, row, row}}}}, {Tokens: make([]int, 500), From: 490}, some(config(5, 2, 1, 1, 2), 4, 2, 1),
	}
	ends := []int{math.MinInt, -1, 0, 1, 2, 5, math.MaxInt}
	for _, vocab := range ends {
		for _, dim := range ends {
			for _, layers := range ends {
				c := config(vocab, dim, 1, 1, layers)
				for _, b := range blocks {
					block.Check(c, b)
					block.Bytes(c, b)
					block.Join(c, []block.Block{b})
					block.Join(c, append(blocks, b))
					for _, page := range ends {
						block.Split(c, step.View{Tokens: b.Tokens, Cache: b.Cache}, page)
					}
				}
			}
		}
	}
}
