package prefill_test

import (
	"math/rand"
	"slices"
	"strings"
	"testing"

	"tiller/api"
	"tiller/block"
	"tiller/pass"
	"tiller/prefill"
)

// lists are lists of rows of any numbers, the least and the greatest among them.
func lists(r *rand.Rand, layers, places, dim int) [][][]api.Num {
	var l [][][]api.Num
	for range layers {
		var rows [][]api.Num
		for range places {
			var row []api.Num
			for range dim {
				row = append(row, []api.Num{api.Num(int32(r.Uint32())), -api.Most - 1, api.Most, 0, -1}[r.Intn(5)])
			}
			rows = append(rows, row)
		}
		l = append(l, rows)
	}
	return l
}

// anyBlock is a block that is right, from a place on with so many places.
func anyBlock(r *rand.Rand, c api.Config, from, places int) block.Block {
	b := block.Block{From: from, Cache: pass.Cache{Keys: lists(r, c.Layers, places, c.Dim), Vals: lists(r, c.Layers, places, c.Dim)}}
	for range from + places {
		b.Tokens = append(b.Tokens, r.Intn(c.Vocab))
	}
	return b
}

// anyBlocks are any blocks that are right; they needn't fit one another.
func anyBlocks(r *rand.Rand, c api.Config, count int) []block.Block {
	var l []block.Block
	for range count {
		places := 1 + r.Intn(16)
		l = append(l, anyBlock(r, c, r.Intn(129-places), places))
	}
	return l
}

// bundled is the chapter's bundle of blocks that are right.
func bundled(l []block.Block) string {
	text := ""
	for _, b := range l {
		s := string([]byte{byte(len(b.Tokens)), byte(b.From)})
		for _, token := range b.Tokens {
			s += string([]byte{byte(token)})
		}
		s += numbers(b.Cache.Keys) + numbers(b.Cache.Vals)
		text += lengthText(len(s)) + s
	}
	return text
}

// lengthText is a length in four bytes.
func lengthText(n int) string {
	return string([]byte{byte(n / (1 << 24)), byte(n / (1 << 16) % 256), byte(n / 256 % 256), byte(n % 256)})
}

// unbundled is the chapter's Unbundle.
func unbundled(c api.Config, s string) ([]block.Block, api.Errno) {
	var l []block.Block
	for at := 0; at < len(s); {
		if len(s)-at < 4 {
			return nil, api.ErrEnd
		}
		length := int64(s[at])<<24 + int64(s[at+1])<<16 + int64(s[at+2])<<8 + int64(s[at+3])
		at += 4
		if length > int64(len(s)-at) {
			return nil, api.ErrEnd
		}
		b, e := block.Read(c, s[at:at+int(length)])
		if e != api.OK {
			return nil, e
		}
		l, at = append(l, b), at+int(length)
	}
	return l, api.OK
}

// readsAs asks that Unbundle answers what the chapter says of a text.
func readsAs(t *testing.T, c api.Config, s string) {
	t.Helper()
	want, why := unbundled(c, s)
	got, e := prefill.Unbundle(c, s)
	if e != why || !slices.EqualFunc(got, want, sameBlock) {
		t.Fatalf("Unbundle(%q): %d blocks, %d, not %d, %d", s, len(got), e, len(want), why)
	}
}

// P22.4: Bundle is the chapter's bytes, and Unbundle makes the blocks of it again: of none, one and several, of any that are right.
func TestBundle(t *testing.T) {
	r := rand.New(rand.NewSource(1))
	for _, c := range []api.Config{config(2, 1, 1, 1, 1), config(5, 4, 2, 6, 2), config(64, 32, 4, 64, 4), config(7, 3, 3, 3, 3)} {
		for count := range 9 {
			l := anyBlocks(r, c, count)
			s, e := prefill.Bundle(c, l)
			if e != api.OK || s != bundled(l) {
				t.Fatalf("%v: Bundle of %d blocks: %d bytes, %d", c, count, len(s), e)
			}
			back, e := prefill.Unbundle(c, s)
			if e != api.OK || !slices.EqualFunc(back, l, sameBlock) {
				t.Fatalf("%v: Unbundle of %d blocks: %d, %d", c, count, len(back), e)
			}
		}
	}
	for _, l := range [][]block.Block{nil, {}} {
		if s, e := prefill.Bundle(api.Config{}, l); s != "" || e != api.OK {
			t.Errorf("Bundle of none: %q, %d", s, e)
		}
	}
	if l, e := prefill.Unbundle(api.Config{}, ""); len(l) != 0 || e != api.OK {
		t.Errorf("Unbundle of nothing: %v, %d", l, e)
	}
}

// wrongBlocks are blocks that block.Bytes refuses, with the error, for a configuration of two layers, Dim 4 and Vocab 5.
func wrongBlocks(r *rand.Rand, c api.Config) ([]block.Block, []api.Errno) {
	many, row, token, below, lists, far := anyBlock(r, c, 2, 3), anyBlock(r, c, 0, 1), anyBlock(r, c, 4, 2), anyBlock(r, c, 0, 2), anyBlock(r, c, 1, 1), anyBlock(r, c, 1, 1)
	many.From = 1
	row.Cache.Vals[1][0] = row.Cache.Vals[1][0][1:]
	token.Tokens[5] = 5
	below.Tokens[0] = -1
	lists.Cache.Keys = lists.Cache.Keys[1:]
	far.From = -1
	both := anyBlock(r, c, 0, 1)
	both.Tokens[0], both.Cache.Keys[0] = 64, nil
	return []block.Block{many, row, token, below, lists, far, both, {}}, []api.Errno{api.ErrForm, api.ErrForm, api.ErrToken, api.ErrToken, api.ErrForm, api.ErrForm, api.ErrToken, api.ErrForm}
}

// P22.4: Bundle answers the first error of block.Bytes, wherever the block stands, and no text beside it.
func TestBundleErrors(t *testing.T) {
	r := rand.New(rand.NewSource(2))
	c := config(5, 4, 2, 6, 2)
	wrong, errs := wrongBlocks(r, c)
	for i, b := range wrong {
		for at := range 3 {
			l := anyBlocks(r, c, 2)
			l = slices.Insert(l, at, b)
			if s, e := prefill.Bundle(c, l); s != "" || e != errs[i] {
				t.Errorf("block %d at place %d: %q, %d, not %d", i, at, s, e, errs[i])
			}
			for k, other := range wrong {
				if s, e := prefill.Bundle(c, append(slices.Clone(l), other)); s != "" || e != errs[i] {
					t.Errorf("block %d ahead of block %d: %q, %d, not %d", i, k, s, e, errs[i])
				}
			}
		}
	}
}

// P22.4: configurations that no model has: what block.Bytes writes is bundled, whether block.Read takes it or not.
func TestBundleAnyConfig(t *testing.T) {
	r := rand.New(rand.NewSource(3))
	for _, c := range []api.Config{config(300, 2, 0, 0, 1), config(3, 33, 0, 0, 1), config(3, 1, 0, 0, 5), config(3, 0, 0, 0, 2), config(3, 5, 0, 0, 0)} {
		l := anyBlocks(r, c, 3)
		s, e := prefill.Bundle(c, l)
		if e != api.OK || s != bundled(l) {
			t.Errorf("%v: %d bytes, %d", c, len(s), e)
		}
		readsAs(t, c, s)
	}
}

// P22.4: a text that is cut at any place is ErrEnd, but where a block ends.
func TestUnbundleCut(t *testing.T) {
	r := rand.New(rand.NewSource(4))
	c := config(5, 4, 2, 6, 2)
	l := []block.Block{anyBlock(r, c, 0, 1), anyBlock(r, c, 3, 2), anyBlock(r, c, 0, 3)}
	s := bundled(l)
	ends := []int{0, len(bundled(l[:1])), len(bundled(l[:2])), len(s)}
	for cut := range len(s) + 1 {
		got, e := prefill.Unbundle(c, s[:cut])
		if whole := slices.Index(ends, cut); whole >= 0 {
			if e != api.OK || !slices.EqualFunc(got, l[:whole], sameBlock) {
				t.Errorf("cut behind %d blocks: %d, %d", whole, len(got), e)
			}
		} else if e != api.ErrEnd || len(got) != 0 {
			t.Errorf("cut at %d: %d blocks, %d", cut, len(got), e)
		}
	}
}

// P22.4: lengths that are greater than what is there, up to the greatest, and lesser ones; at the beginning and behind a block.
func TestUnbundleLengths(t *testing.T) {
	r := rand.New(rand.NewSource(5))
	c := config(5, 4, 2, 6, 2)
	s := bundled([]block.Block{anyBlock(r, c, 0, 2)})
	body := s[4:]
	for _, ahead := range []string{"", s, s + s} {
		for _, length := range []int{len(body) + 1, len(body) + 256, 1 << 16, 1 << 24, 1<<31 - 1, 1 << 31, 1<<31 + len(body), 1<<32 - 4, 1<<32 - 1} {
			if l, e := prefill.Unbundle(c, ahead+lengthText(length)+body); e != api.ErrEnd || len(l) != 0 {
				t.Errorf("length %d of %d: %d blocks, %d", length, len(body), len(l), e)
			}
		}
		for length := range len(body) {
			readsAs(t, c, ahead+lengthText(length)+body)
			if l, e := prefill.Unbundle(c, ahead+lengthText(length)+body[:length]); e == api.OK || len(l) != 0 {
				t.Errorf("length %d of %d: %d blocks, %d", length, len(body), len(l), e)
			}
		}
		for _, rest := range []string{"\x00", "\x00\x00\x00", "\x00\x00\x00\x00", "\xff\xff\xff\xff", "\x00\x00\x00\x01"} {
			if l, e := prefill.Unbundle(c, ahead+s+rest); e != api.ErrEnd || len(l) != 0 {
				t.Errorf("%q behind: %d blocks, %d", rest, len(l), e)
			}
		}
	}
}

// P22.4: bytes that block.Read refuses: its error, of the first block that has one; an end that is wanting ahead of it comes first.
func TestUnbundleRefused(t *testing.T) {
	r := rand.New(rand.NewSource(6))
	c := config(5, 4, 2, 6, 2)
	good := bundled([]block.Block{anyBlock(r, c, 0, 2)})
	spoilt := func(at int, b byte) string {
		x := []byte(good)
		x[4+at] = b
		return string(x)
	}
	cases := []struct {
		s string
		e api.Errno
	}{
		{lengthText(0), api.ErrEnd}, {lengthText(1) + "\x01", api.ErrEnd}, {lengthText(2) + "\x01\x00", api.ErrEnd}, {lengthText(2) + "\x00\x00", api.ErrForm},
		{spoilt(0, 200), api.ErrEnd}, {spoilt(0, 3), api.ErrLen}, {spoilt(1, 1), api.ErrLen}, {spoilt(1, 9), api.ErrLen}, {spoilt(2, 5), api.ErrToken}, {spoilt(3, 255), api.ErrToken},
		{lengthText(3) + "\x01\x01\x00", api.ErrForm}, {lengthText(len(good)-4+1) + good[4:] + "x", api.ErrLen},
	}
	for i, x := range cases {
		for _, ahead := range []string{"", good, good + good} {
			for _, behind := range []string{"", good, spoilt(2, 5), "x"} {
				if l, e := prefill.Unbundle(c, ahead+x.s+behind); e != x.e || len(l) != 0 {
					t.Errorf("%d: %d blocks, %d, not %d", i, len(l), e, x.e)
				}
			}
		}
	}
}

// P22.4: any bytes, and bundles with a byte changed at any place, are answered as the chapter says.
func TestUnbundleAny(t *testing.T) {
	r := rand.New(rand.NewSource(7))
	for _, c := range []api.Config{config(2, 1, 1, 1, 1), config(5, 2, 2, 6, 2), config(3, 0, 0, 0, 0), config(-1, -1, 0, 0, -1), {}} {
		var s string
		if c.Layers > 0 {
			s = bundled([]block.Block{anyBlock(r, c, 0, 1), anyBlock(r, c, 1, 2)})
		}
		for at := range len(s) {
			for b := range 256 {
				x := []byte(s)
				x[at] = byte(b)
				readsAs(t, c, string(x))
			}
		}
		for range 20000 {
			var x strings.Builder
			for range r.Intn(24) {
				x.WriteByte([]byte{0, 0, 0, 1, 2, byte(r.Intn(20)), byte(r.Intn(256))}[r.Intn(7)])
			}
			readsAs(t, c, x.String())
		}
	}
}
