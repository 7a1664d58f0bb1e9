package block_test

import (
	"encoding/binary"
	"math"
	"slices"
	"strings"
	"testing"

	"tiller/api"
	"tiller/block"
	"tiller/model"
	"tiller/pass"
)

// text is what Bytes answers without an error.
func text(t *testing.T, c api.Config, b block.Block) string {
	t.Helper()
	s, e := block.Bytes(c, b)
	if e != api.OK {
		t.Fatalf("Bytes(%v, %d tokens from %d): %d", c, len(b.Tokens), b.From, e)
	}
	return s
}

// written is what the chapter says of a block as bytes.
func written(b block.Block) string {
	s := []byte{byte(len(b.Tokens)), byte(b.From)}
	for _, token := range b.Tokens {
		s = append(s, byte(token&255))
	}
	for _, rows := range slices.Concat(b.Cache.Keys, b.Cache.Vals) {
		for _, row := range rows {
			for _, x := range row {
				n := int64(x)
				if n < 0 {
					n += 1 << 32
				}
				s = binary.BigEndian.AppendUint32(s, uint32(n))
			}
		}
	}
	return string(s)
}

// rights are blocks of all lengths that are right.
func rights(c api.Config, seed uint32) []block.Block {
	var l []block.Block
	for _, n := range []int{1, 2, 5, 16, 17, 64, 112, 127, 128} {
		for _, from := range []int{0, 1, n - 16, n - 15, n - 7, n - 1} {
			if from >= 0 && n-from >= 1 && n-from <= api.MaxPage {
				l = append(l, some(c, n, from, seed+uint32(n)))
			}
		}
	}
	return l
}

// checkNoRead holds an error of Read against the wanted one, and looks that there is nothing beside it.
func checkNoRead(t *testing.T, what string, c api.Config, s string, want api.Errno) {
	t.Helper()
	if b, e := block.Read(c, s); e != want || !equal(b, block.Block{}) {
		t.Errorf("%s: Read(%v, %d bytes): %d tokens, %d, not %d", what, c, len(s), len(b.Tokens), e, want)
	}
}

// P11.2: bytes as the chapter says, and read back.
func TestBytes(t *testing.T) {
	for i, c := range sound() {
		if e := model.Shape(c); e != api.OK {
			t.Fatalf("%v: Shape: %d", c, e)
		}
		for _, b := range rights(c, uint32(i)) {
			s := text(t, c, b)
			if s != written(b) {
				t.Errorf("%v: %d tokens from %d: other bytes", c, len(b.Tokens), b.From)
			}
			if len(s) != 2+len(b.Tokens)+8*(len(b.Tokens)-b.From)*c.Layers*c.Dim {
				t.Errorf("%v: %d tokens from %d: %d bytes", c, len(b.Tokens), b.From, len(s))
			}
			if x, e := block.Read(c, s); e != api.OK || !equal(x, b) {
				t.Errorf("%v: %d tokens from %d: read as another block, %d", c, len(b.Tokens), b.From, e)
			}
		}
	}
}

// P11.2: bytes of a view's pages that a model made, read back and joined.
func TestBytesOfModels(t *testing.T) {
	for i, c := range sound() {
		v := told(t, c, 21, uint64(i))
		for _, page := range []int{1, 4, 16} {
			var came []block.Block
			for _, b := range split(t, c, v, page) {
				x, e := block.Read(c, text(t, c, b))
				if e != api.OK || !equal(x, b) {
					t.Errorf("%v: read as another block, %d", c, e)
				}
				came = append(came, x)
			}
			checkJoin(t, "came as bytes", c, came, v)
		}
	}
}

// P11.2: byte by byte.
func TestBytesByHand(t *testing.T) {
	c := config(64, 2, 1, 1, 2)
	b := block.Block{Tokens: []int{63, 0, 7}, From: 2, Cache: pass.Cache{Keys: [][][]api.Num{{{0, 1}}, {{-1, 0x01020304}}}, Vals: [][][]api.Num{{{api.Most, least}}, {{-65536, 65536}}}}}
	want := "\x03\x02\x3f\x00\x07" + "\x00\x00\x00\x00\x00\x00\x00\x01" + "\xff\xff\xff\xff\x01\x02\x03\x04" + "\x7f\xff\xff\xff\x80\x00\x00\x00" + "\xff\xff\x00\x00\x00\x01\x00\x00"
	if s := text(t, c, b); s != want {
		t.Errorf("Bytes: %q, not %q", s, want)
	}
	if x, e := block.Read(c, want); e != api.OK || !equal(x, b) {
		t.Errorf("Read: %v, %d", x, e)
	}
	c = config(64, 1, 1, 1, 1)
	b = block.Block{Tokens: []int{1, 2}, Cache: pass.Cache{Keys: [][][]api.Num{{{3}, {4}}}, Vals: [][][]api.Num{{{5}, {-2}}}}}
	want = "\x02\x00\x01\x02" + "\x00\x00\x00\x03\x00\x00\x00\x04" + "\x00\x00\x00\x05\xff\xff\xff\xfe"
	if s := text(t, c, b); s != want {
		t.Errorf("Bytes: %q, not %q", s, want)
	}
	if x, e := block.Read(c, want); e != api.OK || !equal(x, b) {
		t.Errorf("Read: %v, %d", x, e)
	}
}

// P11.2: numbers of all sizes, at each place.
func TestBytesOfNumbers(t *testing.T) {
	nums := []api.Num{least, -api.Most, -16777217, -16777216, -65537, -65536, -257, -256, -255, -128, -1, 0, 1, 127, 128, 255, 256, 65535, 65536, 16777215, 16777216, api.Most - 1, api.Most}
	for i, c := range sound() {
		b := some(c, 6, 3, uint32(i))
		for side := range 2 {
			for _, at := range places(c.Layers) {
				for _, row := range places(3) {
					for _, k := range places(c.Dim) {
						for _, x := range nums {
							y := changed(b, func(z *block.Block) { (*sides(z)[side])[at][row][k] = x })
							s := text(t, c, y)
							if came, e := block.Read(c, s); s != written(y) || e != api.OK || !equal(came, y) {
								t.Errorf("%v: %d: other bytes, or read as another block, %d", c, x, e)
							}
						}
					}
				}
			}
		}
	}
}

// P11.2: each token of a vocabulary.
func TestBytesOfTokens(t *testing.T) {
	for _, c := range []api.Config{config(2, 1, 1, 1, 1), config(64, 1, 1, 1, 1), config(256, 1, 1, 1, 1)} {
		for token := range c.Vocab {
			for at := range 4 {
				b := changed(some(c, 4, 2, 9), func(x *block.Block) { x.Tokens[at] = token })
				s := text(t, c, b)
				if came, e := block.Read(c, s); s != written(b) || e != api.OK || !equal(came, b) {
					t.Errorf("%v: token %d: other bytes, or read as another block, %d", c, token, e)
				}
			}
		}
	}
}

// P11.2: of configurations that aren't right themselves: a token's lowest eight bits, and more layers and numbers than Read takes.
func TestBytesOfAnyConfig(t *testing.T) {
	for _, c := range odd() {
		for _, b := range []block.Block{some(c, 1, 0, 1), some(c, 5, 2, 1), some(c, 128, 113, 1)} {
			s := text(t, c, b)
			if s != written(b) {
				t.Errorf("%v: other bytes", c)
			}
			if c.Layers > api.MaxLayers || c.Dim > api.MaxDim {
				checkNoRead(t, "too many", c, s, api.ErrLen)
			} else if x, e := block.Read(c, s); e != api.OK || c.Vocab <= 256 && !equal(x, b) {
				t.Errorf("%v: read as another block, %d", c, e)
			}
		}
	}
	c := config(1<<40, 1, 1, 1, 1)
	b := changed(some(c, 3, 2, 1), func(x *block.Block) { x.Tokens = []int{256, 1<<32 + 513, 1<<40 - 1} })
	if s := text(t, c, b); s != "\x03\x02\x00\x01\xff"+written(b)[5:] {
		t.Errorf("tokens of more than a byte: %q", s[:5])
	} else if x, e := block.Read(c, s); e != api.OK || !slices.Equal(x.Tokens, []int{0, 1, 255}) {
		t.Errorf("tokens of more than a byte: %v, %d", x.Tokens, e)
	}
}

// P11.2: every text cut short, and with bytes too many.
func TestReadCut(t *testing.T) {
	for i, c := range sound() {
		for _, b := range []block.Block{some(c, 1, 0, uint32(i)), some(c, 4, 2, uint32(i)), some(c, 20, 18, uint32(i)), some(c, 128, 127, uint32(i))} {
			s := text(t, c, b)
			for n := range len(s) {
				want := api.ErrLen
				if n < 2+len(b.Tokens) {
					want = api.ErrEnd
				}
				checkNoRead(t, "cut short", c, s[:n], want)
			}
			for _, more := range []string{"\x00", "\xff", "\x00\x00\x00\x00", strings.Repeat("\x01", 8), strings.Repeat("\x00", 8*c.Layers*c.Dim), s} {
				checkNoRead(t, "too many", c, s+more, api.ErrLen)
			}
		}
	}
}

// P11.2: no bytes, and one.
func TestReadOfLittle(t *testing.T) {
	for _, c := range append(sound(), api.Config{}, config(-1, -1, -1, -1, -1), config(5, 33, 1, 1, 5), config(math.MaxInt, math.MaxInt, math.MaxInt, math.MaxInt, math.MaxInt)) {
		checkNoRead(t, "nothing", c, "", api.ErrEnd)
		for x := range 256 {
			checkNoRead(t, "one byte", c, string([]byte{byte(x)}), api.ErrEnd)
			if x > 0 {
				checkNoRead(t, "two bytes", c, string([]byte{byte(x), 0}), api.ErrEnd)
				checkNoRead(t, "two bytes", c, string([]byte{byte(x), 255}), api.ErrEnd)
				checkNoRead(t, "a token less", c, string([]byte{byte(x), 0})+strings.Repeat("\x00", x-1), api.ErrEnd)
			}
		}
	}
	for _, c := range sound() {
		for from := range 256 {
			checkNoRead(t, "no tokens", c, string([]byte{0, byte(from)}), api.ErrForm)
			checkNoRead(t, "no tokens, and a byte", c, string([]byte{0, byte(from), 0}), api.ErrLen)
		}
	}
}

// wantRead is what the chapter says of a text's error; of a block without one it is OK.
func wantRead(c api.Config, s string) api.Errno {
	if len(s) < 2 || len(s)-2 < int(s[0]) {
		return api.ErrEnd
	}
	n, from := int(s[0]), int(s[1])
	if c.Layers > 4 || c.Dim > 32 || len(s)-2-n != 8*max(0, n-from)*max(0, c.Layers)*max(0, c.Dim) {
		return api.ErrLen
	}
	if n-from < 1 || n-from > 16 || n > 128 || c.Layers < 0 {
		return api.ErrForm
	}
	for i := range n {
		if int(s[2+i]) >= c.Vocab {
			return api.ErrToken
		}
	}
	if c.Layers > 0 && c.Dim < 0 {
		return api.ErrForm
	}
	return api.OK
}

// checkRead holds Read of any text against what the chapter says.
func checkRead(t *testing.T, c api.Config, s string) {
	t.Helper()
	want := wantRead(c, s)
	if want != api.OK {
		checkNoRead(t, "any text", c, s, want)
		return
	}
	b, e := block.Read(c, s)
	if e != api.OK || written(b) != s || block.Check(c, b) != api.OK || len(b.Tokens) != int(s[0]) || b.From != int(s[1]) {
		t.Errorf("Read(%v, %d bytes): %d tokens from %d, %d", c, len(s), len(b.Tokens), b.From, e)
	}
}

// P11.2: each number of tokens with many a From, with as many bytes behind as they ask for, one less and one more.
func TestReadOfHeads(t *testing.T) {
	for _, c := range []api.Config{config(2, 1, 1, 1, 1), config(5, 3, 1, 1, 2), config(64, 32, 4, 64, 4)} {
		for n := range 256 {
			for _, from := range []int{0, 1, n - 17, n - 16, n - 15, n - 1, n, n + 1, 127, 128, 129, 254, 255} {
				if from < 0 || from > 255 {
					continue
				}
				for _, token := range []byte{0, byte(c.Vocab - 1), byte(c.Vocab), 255} {
					for _, more := range []int{-1, 0, 1} {
						rest := max(0, 8*max(0, n-from)*c.Layers*c.Dim+more)
						checkRead(t, c, string([]byte{byte(n), byte(from)})+strings.Repeat(string([]byte{token}), n)+strings.Repeat("\x9c", rest))
					}
				}
			}
		}
	}
}

// P11.2: a From beyond the Tokens: there are no numbers, and the block isn't right.
func TestReadOfFromBeyond(t *testing.T) {
	for _, c := range sound() {
		for _, n := range []int{1, 3, 16, 127, 128, 129, 200, 255} {
			tokens := strings.Repeat("\x00", n)
			for _, from := range []int{n, n + 1, n + 20, 254, 255} {
				if from < n || from > 255 {
					continue
				}
				head := string([]byte{byte(n), byte(from)})
				checkNoRead(t, "no numbers", c, head+tokens, api.ErrForm)
				checkNoRead(t, "numbers", c, head+tokens+strings.Repeat("\x00", 8*c.Layers*c.Dim), api.ErrLen)
				checkNoRead(t, "a token less", c, head+tokens[1:], api.ErrEnd)
				checkNoRead(t, "a wrong token, too", c, head+strings.Repeat("\xff", n), api.ErrForm)
			}
		}
	}
}

// P11.2: configurations whose Layers or Dim is below 0, 0, the greatest, and one more.
func TestReadOfAnyConfig(t *testing.T) {
	sizes := []int{math.MinInt, -1 << 32, -1, 0, 1, 4, 5, 32, 33, 1 << 31, 1 << 32, 1 << 61, 1 << 62, math.MaxInt}
	for _, vocab := range []int{math.MinInt, -1, 0, 1, 64, 300, math.MaxInt} {
		for _, layers := range sizes {
			for _, dim := range sizes {
				c := config(vocab, dim, 1, 1, layers)
				for _, head := range []string{"\x01\x00\x00", "\x01\x00\x3f", "\x02\x01\x00\x00", "\x02\x00\x00\xff", "\x11\x00" + strings.Repeat("\x00", 17), "\x01\x01\x00", "\x00\x00"} {
					for _, rest := range []int{0, 1, 8, 8 * 32, 8 * 4, 8 * 4 * 32, 8 * 5 * 32, 8 * 4 * 33, 2 * 8 * 4 * 32, 17 * 8 * 4 * 32} {
						checkRead(t, c, head+strings.Repeat("\x00", rest))
					}
				}
			}
		}
	}
	one := "\x03\x01\x00\x01\x02"
	for c, want := range map[api.Config]api.Errno{
		config(5, 4, 1, 1, 0): api.OK, config(5, 32, 1, 1, 0): api.OK, config(5, 33, 1, 1, 0): api.ErrLen, config(5, 0, 1, 1, 0): api.OK, config(5, -1, 1, 1, 0): api.OK, config(5, math.MinInt, 1, 1, 0): api.OK, config(2, -1, 1, 1, 0): api.ErrToken,
		config(5, 0, 1, 1, 1): api.OK, config(5, 0, 1, 1, 4): api.OK, config(5, 0, 1, 1, 5): api.ErrLen, config(5, -1, 1, 1, 5): api.ErrLen, config(5, -1, 1, 1, 1): api.ErrForm, config(2, -1, 1, 1, 1): api.ErrToken, config(5, math.MinInt, 1, 1, 4): api.ErrForm,
		config(5, 4, 1, 1, -1): api.ErrForm, config(2, 4, 1, 1, -1): api.ErrForm, config(5, 33, 1, 1, -1): api.ErrLen, config(5, 4, 1, 1, math.MinInt): api.ErrForm, config(5, 4, 1, 1, 1): api.ErrLen, config(2, 4, 1, 1, 1): api.ErrLen,
	} {
		b, e := block.Read(c, one)
		if e != want || (e == api.OK) != slices.Equal(b.Tokens, []int{0, 1, 2}) {
			t.Errorf("Read(%v): %v, %d, not %d", c, b, e, want)
		}
		if e == api.OK && (len(b.Cache.Keys) != c.Layers || len(b.Cache.Vals) != c.Layers || b.From != 1) {
			t.Errorf("Read(%v): %v", c, b)
		}
	}
}

// P11.2: with several errors at once the one that is named first.
func TestReadInOrder(t *testing.T) {
	c := config(5, 2, 1, 1, 1)
	big := config(5, 33, 1, 1, 5)
	nums := func(places int) string { return strings.Repeat("\x01", 16*places) }
	for _, x := range []struct {
		what string
		c    api.Config
		s    string
		want api.Errno
	}{
		{"bytes wanting, Layers and Dim too great", big, "\x02\x00\x01", api.ErrEnd},
		{"bytes wanting, a From beyond, a wrong token", c, "\x03\x09\xff\xff", api.ErrEnd},
		{"bytes wanting, too many tokens", c, "\xc8\x00" + strings.Repeat("\xff", 199), api.ErrEnd},
		{"a wrong length, a wrong token", c, "\x02\x00\xff\xff" + nums(1), api.ErrLen},
		{"a wrong length, a From beyond", c, "\x02\x09\x00\x00" + nums(1), api.ErrLen},
		{"a wrong length, too many places", c, "\x14\x00" + strings.Repeat("\x00", 20) + nums(19), api.ErrLen},
		{"Layers too great, a wrong token", config(5, 2, 1, 1, 5), "\x01\x00\xff" + strings.Repeat("\x00", 80), api.ErrLen},
		{"Dim too great, a From beyond", config(5, 33, 1, 1, 1), "\x01\x05\x00", api.ErrLen},
		{"Layers too great, Dim below 0", config(5, -1, 1, 1, 5), "\x01\x00\x00", api.ErrLen},
		{"too many places, a wrong token", c, "\x14\x00" + strings.Repeat("\xff", 20) + nums(20), api.ErrForm},
		{"too many tokens, a wrong token", c, "\x81\x80" + strings.Repeat("\x05", 129) + nums(1), api.ErrForm},
		{"a From at the end, a wrong token", c, "\x02\x02\x05\x05", api.ErrForm},
		{"Layers below 0, a wrong token", config(5, 2, 1, 1, -1), "\x01\x00\x05", api.ErrForm},
		{"a wrong token, Dim below 0", config(5, -1, 1, 1, 1), "\x01\x00\x05", api.ErrToken},
		{"a wrong token", c, "\x02\x01\x05\x00" + nums(1), api.ErrToken},
		{"none", c, "\x02\x01\x04\x00" + nums(1), api.OK},
	} {
		if x.want != wantRead(x.c, x.s) {
			t.Fatalf("%s: %d is wanted, or %d?", x.what, x.want, wantRead(x.c, x.s))
		}
		checkRead(t, x.c, x.s)
	}
}

// P11.2: each row of bytes is that of one block alone: any other bytes are those of another block, or of none.
func TestBytesOfOneAlone(t *testing.T) {
	for i, c := range []api.Config{config(2, 1, 1, 1, 1), config(64, 1, 1, 1, 2), config(40, 4, 2, 6, 2)} {
		for _, b := range []block.Block{some(c, 1, 0, uint32(i)), some(c, 6, 3, uint32(i)), some(c, 30, 28, uint32(i))} {
			s := text(t, c, b)
			for bit := range 8 * len(s) {
				x := []byte(s)
				x[bit/8] ^= 1 << (bit % 8)
				checkRead(t, c, string(x))
				if y, e := block.Read(c, string(x)); e == api.OK && (equal(y, b) || text(t, c, y) != string(x)) {
					t.Errorf("%v: bit %d turned: the same block, or other bytes", c, bit)
				}
			}
		}
	}
}

// P11.2: unlike blocks have unlike bytes.
func TestUnlikeBytes(t *testing.T) {
	for i, c := range sound() {
		seen := map[string]block.Block{}
		for _, b := range rights(c, uint32(i)) {
			l := []block.Block{b, changed(b, func(x *block.Block) { x.Cache.Keys, x.Cache.Vals = x.Cache.Vals, x.Cache.Keys })}
			for at := range b.Tokens {
				l = append(l, changed(b, func(x *block.Block) { x.Tokens[at] = (x.Tokens[at] + 1) % c.Vocab }))
			}
			for _, x := range l {
				s := text(t, c, x)
				if y, ok := seen[s]; ok && !equal(x, y) {
					t.Errorf("%v: unlike blocks have like bytes", c)
				}
				seen[s] = x
			}
		}
	}
}

// P11.2: any text: Read ends, and says what the chapter says.
func FuzzRead(f *testing.F) {
	f.Add(5, 4, 2, "\x01\x00\x01")
	f.Add(5, 1, 1, "\x01\x00\x01\x00\x00\x00\x01\x00\x00\x00\x02")
	f.Add(0, 0, 0, "")
	f.Add(-1, 33, 5, "\xff\xff")
	f.Fuzz(func(t *testing.T, vocab, dim, layers int, s string) {
		checkRead(t, config(vocab, dim, 1, 1, layers), s)
	})
}
