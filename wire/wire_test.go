package wire_test

import (
	"hash/crc32"
	"math"
	"math/rand"
	"slices"
	"strings"
	"testing"

	"tiller/api"
	"tiller/frame"
	"tiller/wire"
)

// most is the greatest number in a message, as the chapter says it.
const most = 1099511627776

// fields are a message's numbers, in the chapter's order.
func fields(m *wire.Msg) []*int {
	return []*int{&m.Kind, &m.From, &m.To, &m.Life, &m.Req, &m.Try, &m.Num, &m.Epoch, &m.At, &m.Of}
}

// same tells whether two messages are the same; no Tokens and an empty list of them are.
func same(a, b wire.Msg) bool {
	for i, x := range fields(&a) {
		if *x != *fields(&b)[i] {
			return false
		}
	}
	return slices.Equal(a.Tokens, b.Tokens) && a.Text == b.Text
}

// zero tells whether a message is the zero one.
func zero(m wire.Msg) bool {
	return same(m, wire.Msg{})
}

// fault is a Bad around a number.
func fault(part int, why api.Errno) error {
	return wire.Bad{Part: part, Err: why}
}

// wantedCheck is what Check answers, by the chapter's list.
func wantedCheck(m wire.Msg) error {
	if !slices.Contains([]int{1, 2, 3, 4, 5, 6, 7, 8, 9, 10}, m.Kind) {
		return fault(1, api.ErrKind)
	}
	for i, x := range fields(&m) {
		if *x < 0 || *x > most {
			return fault(i+1, api.ErrArg)
		}
	}
	wrong := func(x int) bool { return x < 0 || x >= 256 }
	switch {
	case len(m.Tokens) > 128:
		return fault(11, api.ErrBig)
	case slices.ContainsFunc(m.Tokens, wrong):
		return fault(11, api.ErrToken)
	case len(m.Text) > 50000:
		return fault(12, api.ErrBig)
	}
	return nil
}

// number is a number in bytes, as the chapter says it.
func number(n int) string {
	groups := []byte{byte(n % 128)}
	for n /= 128; n > 0; n /= 128 {
		groups = append(groups, byte(n%128)+128)
	}
	slices.Reverse(groups)
	return string(groups)
}

// bodyOf is a message as a frame's text, as the chapter says it.
func bodyOf(m wire.Msg) string {
	var s string
	for _, x := range fields(&m) {
		s += number(*x)
	}
	s += number(len(m.Tokens))
	for _, x := range m.Tokens {
		s += string([]byte{byte(x)})
	}
	return s + number(len(m.Text)) + m.Text
}

// framed is a text in a frame, as layer 14's chapter says it.
func framed(body string) string {
	four := func(n uint32) string { return string([]byte{byte(n), byte(n >> 8), byte(n >> 16), byte(n >> 24)}) }
	s := "\x54\x01" + four(uint32(len(body))) + body
	return s + four(crc32.ChecksumIEEE([]byte(s)))
}

// checks holds Check and Write of a message against the chapter, Read of what is written against the message, and tells the error.
func checks(t *testing.T, m wire.Msg) error {
	t.Helper()
	want := wantedCheck(m)
	if e := wire.Check(m); e != want {
		t.Errorf("Check: %#v, not %#v", e, want)
	}
	s, e := wire.Write(m)
	if e != want {
		t.Errorf("Write: %#v, not %#v", e, want)
	}
	if want != nil {
		if s != "" {
			t.Errorf("Write: %d bytes beside %v", len(s), e)
		}
		return want
	}
	if s != framed(bodyOf(m)) {
		t.Errorf("Write: %x, not %x", s, framed(bodyOf(m)))
	}
	if back, e := wire.Read(s); e != nil || !same(back, m) {
		t.Errorf("Read of Write: %v, %v", back, e)
	}
	return nil
}

// is holds that an error is the one of a part.
func is(t *testing.T, e error, part int, why api.Errno) {
	t.Helper()
	if e != fault(part, why) || wire.Part(e) != part || frame.Why(e) != why || !frame.Is(e, why) || frame.Place(e) != -1 {
		t.Errorf("%#v: part %d, %v, not part %d, %v", e, wire.Part(e), frame.Why(e), part, why)
	}
}

// some is a text of n bytes, any ones.
func some(r *rand.Rand, n int) string {
	b := make([]byte, n)
	r.Read(b)
	return string(b)
}

// row is a list of n times the same token.
func row(n, token int) []int {
	return slices.Repeat([]int{token}, n)
}

// plain is a right message with something in each part.
func plain() wire.Msg {
	return wire.Msg{Kind: 4, From: 1, To: 2, Life: 300, Req: 4, Try: 5, Num: 16384, Epoch: 7, At: most, Of: 9, Tokens: []int{0, 1, 255}, Text: "hi"}
}

// The kinds and the greatest number are the chapter's.
func TestNames(t *testing.T) {
	kinds := []int{wire.Ask, wire.Chunk, wire.Got, wire.Begin, wire.Done, wire.Thanks, wire.Want, wire.Grant, wire.Deny, wire.Let}
	for i, kind := range kinds {
		if kind != i+1 {
			t.Errorf("kind %d is %d", i+1, kind)
		}
	}
	if wire.Most != most {
		t.Errorf("Most is %d", wire.Most)
	}
}

// P15.1, P15.2: right messages of each kind, and kinds that there aren't, as great and as small as can be.
func TestKinds(t *testing.T) {
	for kind := -300; kind <= 300; kind++ {
		for _, m := range []wire.Msg{{}, plain()} {
			m.Kind = kind
			e := checks(t, m)
			if kind >= 1 && kind <= 10 {
				if e != nil {
					t.Errorf("kind %d: %v", kind, e)
				}
				continue
			}
			is(t, wire.Check(m), 1, api.ErrKind)
		}
	}
	for _, kind := range []int{math.MinInt, math.MinInt + 1, -most, most - 1, most, most + 1, 1<<32 + 1, 1<<63 - 1 - 4, math.MaxInt} {
		m := plain()
		m.Kind = kind
		checks(t, m)
		is(t, wire.Check(m), 1, api.ErrKind)
	}
}

// P15.1, P15.2: each number at its ends, beyond them, and where its bytes become more.
func TestNumbers(t *testing.T) {
	for i := 1; i < 10; i++ {
		for _, n := range []int{0, 1, 127, 128, 129, 255, 256, 16383, 16384, 1<<21 - 1, 1 << 21, 1<<28 - 1, 1 << 28, 1 << 31, 1 << 32, 1<<35 - 1, 1 << 35, most - 1, most} {
			m := plain()
			*fields(&m)[i] = n
			if e := checks(t, m); e != nil {
				t.Errorf("number %d is %d: %v", i+1, n, e)
			}
		}
		for _, n := range []int{-1, -2, -128, -most, math.MinInt, math.MinInt + 1, most + 1, most + 2, 2 * most, 1 << 42, 1 << 49, math.MaxInt - 1, math.MaxInt} {
			m := plain()
			*fields(&m)[i] = n
			checks(t, m)
			is(t, wire.Check(m), i+1, api.ErrArg)
		}
	}
}

// P15.1, P15.2: as many Tokens as there may be, and one more; each token at its ends and beyond them, at each place.
func TestTokens(t *testing.T) {
	for n := range 140 {
		m := plain()
		m.Tokens = row(n, n%256)
		checks(t, m)
		if n > 128 {
			is(t, wire.Check(m), 11, api.ErrBig)
		} else if e := wire.Check(m); e != nil {
			t.Errorf("%d tokens: %v", n, e)
		}
	}
	for token := -2; token <= 258; token++ {
		m := plain()
		m.Tokens = []int{token}
		checks(t, m)
		if token < 0 || token > 255 {
			is(t, wire.Check(m), 11, api.ErrToken)
		} else if e := wire.Check(m); e != nil {
			t.Errorf("token %d: %v", token, e)
		}
	}
	for _, n := range []int{1, 2, 127, 128} {
		for at := range n {
			for _, token := range []int{math.MinInt, -256, -1, 256, 1 << 32, math.MaxInt} {
				m := plain()
				m.Tokens = row(n, 255)
				m.Tokens[at] = token
				checks(t, m)
				is(t, wire.Check(m), 11, api.ErrToken)
			}
		}
	}
	m := plain()
	m.Tokens = nil
	a, _ := wire.Write(m)
	m.Tokens = []int{}
	if b, e := wire.Write(m); e != nil || a != b {
		t.Error("no list and an empty one aren't the same")
	}
}

// P15.1, P15.2: a Text of no bytes, of as many as there may be, and of more.
func TestTexts(t *testing.T) {
	r := rand.New(rand.NewSource(1))
	for _, n := range []int{0, 1, 2, 127, 128, 16383, 16384, 49999, 50000} {
		for _, text := range []string{some(r, n), strings.Repeat("\x00", n), strings.Repeat("\xff", n)} {
			m := plain()
			m.Text = text
			if e := checks(t, m); e != nil {
				t.Errorf("a text of %d bytes: %v", n, e)
			}
		}
	}
	for _, n := range []int{50001, 50002, 60000, 60001, 65536, 200000} {
		m := plain()
		m.Text = some(r, n)
		checks(t, m)
		is(t, wire.Check(m), 12, api.ErrBig)
	}
}

// P15.2: every choice of things that are wrong at once: the first that the chapter names.
func TestFirstWrong(t *testing.T) {
	long := strings.Repeat("x", 50001)
	for _, beyond := range []int{-1, most + 1} {
		for choice := range 1 << 13 {
			m := plain()
			for i, x := range fields(&m) {
				if choice>>i&1 == 1 {
					*x = beyond
				}
			}
			if choice>>10&1 == 1 {
				m.Tokens = append(m.Tokens, row(126, 3)...)
			}
			if choice>>11&1 == 1 {
				m.Tokens = append(m.Tokens[:len(m.Tokens)-1], 256)
			}
			if choice>>12&1 == 1 {
				m.Text = long
			}
			checks(t, m)
		}
	}
}

// someMsg is a right message, any one.
func someMsg(r *rand.Rand) wire.Msg {
	m := wire.Msg{}
	for _, x := range fields(&m)[1:] {
		*x = r.Intn(1<<r.Intn(41) + 1)
	}
	m.Kind = 1 + r.Intn(10)
	for range r.Intn(129) >> r.Intn(8) {
		m.Tokens = append(m.Tokens, r.Intn(256))
	}
	m.Text = some(r, r.Intn(400)>>r.Intn(9))
	return m
}

// P15.1: many messages, written as the chapter says it, and read again.
func TestReadOfWrite(t *testing.T) {
	r := rand.New(rand.NewSource(2))
	for range 20000 {
		if e := checks(t, someMsg(r)); e != nil {
			t.Fatalf("%v", e)
		}
	}
	great := wire.Msg{Kind: 10, From: most, To: most, Life: most, Req: most, Try: most, Num: most, Epoch: most, At: most, Of: most, Tokens: row(128, 255), Text: some(r, 50000)}
	if e := checks(t, great); e != nil {
		t.Errorf("the greatest message: %v", e)
	}
}

// P15.1: bytes that are written out by hand.
func TestBytes(t *testing.T) {
	for body, m := range map[string]wire.Msg{
		"\x01\x00\x00\x00\x00\x00\x00\x00\x00\x00\x00\x00": {Kind: 1},
		"\x0a\x01\x02\x03\x04\x05\x06\x07\x08\x09\x00\x00": {Kind: 10, From: 1, To: 2, Life: 3, Req: 4, Try: 5, Num: 6, Epoch: 7, At: 8, Of: 9},
		"\x02\x7f\x81\x00\x81\x01\x82\x2c\xff\x7f\x81\x80\x00\xff\xff\xff\xff\x7f\xa0\x80\x80\x80\x80\x00\x9f\xff\xff\xff\xff\x7f\x00\x00": {Kind: 2, From: 127, To: 128, Life: 129, Req: 300, Try: 16383, Num: 16384, Epoch: 1<<35 - 1, At: most, Of: most - 1},
		"\x05\x00\x00\x00\x00\x00\x00\x00\x00\x00\x03\x00\x80\xff\x02hi":                                                                   {Kind: 5, Tokens: []int{0, 128, 255}, Text: "hi"},
		"\x03\x00\x00\x00\x00\x00\x00\x00\x00\x00\x81\x00" + strings.Repeat("\x07", 128) + "\x83\x86\x50" + strings.Repeat("t", 50000):     {Kind: 3, Tokens: row(128, 7), Text: strings.Repeat("t", 50000)},
	} {
		if s, e := wire.Write(m); e != nil || s != framed(body) {
			t.Errorf("Write of %v: %x, %v", m.Kind, s[:min(60, len(s))], e)
		}
		if back, e := wire.Read(framed(body)); e != nil || !same(back, m) {
			t.Errorf("Read of %v: %v", m.Kind, e)
		}
	}
}

// P15.1: unlike messages have unlike frames: each number, the Tokens and the Text by all small choices, and many others.
func TestUnlike(t *testing.T) {
	seen := map[string]wire.Msg{}
	lay := func(m wire.Msg) {
		s, e := wire.Write(m)
		if e != nil {
			t.Fatalf("%v", e)
		}
		if other, ok := seen[s]; ok && !same(other, m) {
			t.Fatalf("one frame of %v and %v", other, m)
		}
		seen[s] = m
	}
	choices := []int{0, 1, 127, 128, 16384, most}
	for i := 1; i < 10; i++ {
		for j := 1; j < i; j++ {
			for _, a := range choices {
				for _, b := range choices {
					m := wire.Msg{Kind: 1}
					*fields(&m)[i], *fields(&m)[j] = a, b
					lay(m)
				}
			}
		}
	}
	lists := [][]int{nil, {0}, {1}, {0, 0}, {0, 1}, {1, 0}, {2, 0, 0}, {128}, {129, 0}, {255}, {0, 0, 0}}
	for _, tokens := range lists {
		for _, text := range []string{"", "\x00", "\x01", "\x00\x00", "\x01\x00", "\x00\x01", "\x80", "\x81\x00", "ab"} {
			for kind := 1; kind <= 10; kind++ {
				lay(wire.Msg{Kind: kind, Tokens: tokens, Text: text})
			}
		}
	}
	r := rand.New(rand.NewSource(3))
	for range 5000 {
		lay(someMsg(r))
	}
}

// The chapter's example.
func TestExample(t *testing.T) {
	s, e := wire.Write(wire.Msg{Kind: 6})
	if e != nil {
		t.Fatalf("Write: %v", e)
	}
	if body, e := frame.Unpack(s); e != nil || body != "\x06"+strings.Repeat("\x00", 11) {
		t.Errorf("the text: %x, %v", body, e)
	}
	m, e := wire.Read("")
	if !zero(m) || wire.Part(e) != 0 || frame.Why(e) != api.ErrEnd {
		t.Errorf("Read of nothing: %v, %v", m, e)
	}
	is(t, wire.Check(wire.Msg{Kind: 11}), 1, api.ErrKind)
}
