package prefill

import (
	"slices"

	"tiller/api"
	"tiller/block"
	"tiller/pool"
	"tiller/step"
	"tiller/trie"
)

// shelf is the pages that are kept for prompts that begin alike. A page's number is its key in the pool, too, and the value of its tokens' row, so that one number finds all of it.
type shelf struct {
	pool   *pool.Pool
	rows   trie.Trie
	blocks map[int]block.Block
}

// newShelf: a shelf of a pool's pages, none of which is kept yet.
func newShelf(pages *pool.Pool) shelf {
	return shelf{pool: pages, blocks: make(map[int]block.Block)}
}

// find: the view of as many of some first tokens as pages say, without a gap.
func (s *shelf) find(c api.Config, tokens []int, page int) step.View {
	var l []block.Block
	for end := page; end <= len(tokens); end += page {
		i, there := s.rows.Get(tokens[:end])
		if !there {
			break
		}
		l = append(l, s.blocks[i])
	}
	view, _ := block.Join(c, l) // each hangs on just the tokens of those ahead of it
	return view
}

// keep: the full pages of a prompt, from its beginning on, are kept, as many as the pool has.
func (s *shelf) keep(l []block.Block) {
	var held []int
	for _, b := range l {
		i, ok := s.hold(b)
		if !ok { // all pages are held for those ahead of this one, without which it would be of no use
			break
		}
		held = append(held, i)
	}
	// The pool gives away first what became idle first: a page goes ahead of those that it hangs on.
	slices.Reverse(held)
	for _, i := range held {
		s.pool.Drop(i)
	}
}

// hold: the page of a block, which is needed once more, and kept from now on; false: there is no room.
func (s *shelf) hold(b block.Block) (int, bool) {
	if i, there := s.rows.Get(b.Tokens); there {
		return i, s.pool.Hold(i) == api.OK
	}
	i, gone, had, e := s.pool.Take()
	if e != api.OK {
		return 0, false
	}
	if had {
		s.rows.DropValue(gone) // its block, of the same number, is written over
	}
	s.pool.Seal(i, i)
	s.rows.Put(b.Tokens, i)
	s.blocks[i] = b
	return i, true
}

// all: copies of the pages that are kept, in the order of their tokens.
func (s *shelf) all() []block.Block {
	var l []block.Block
	for _, row := range s.rows.All() {
		b := s.blocks[row.Value]
		v := step.Copy(step.View{Tokens: b.Tokens, Cache: b.Cache}) // a block has a view's lists, whose copies are layer 9's
		l = append(l, block.Block{Tokens: v.Tokens, From: b.From, Cache: v.Cache})
	}
	return l
}
