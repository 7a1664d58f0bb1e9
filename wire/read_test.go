package wire_test

import (
	"math/rand"
	"slices"
	"strings"
	"testing"

	"tiller/api"
	"tiller/frame"
	"tiller/wire"
)

// groupsOf is the number that groups of seven bits come to.
func groupsOf(s string) int {
	n := 0
	for _, b := range []byte(s) {
		n = 128*n + int(b)%128
	}
	return n
}

// wantedNumber is the number that a text begins with and how many bytes it has, or its error; above Most is only what has its last byte.
func wantedNumber(s string) (int, int, api.Errno) {
	last := slices.IndexFunc([]byte(s), func(b byte) bool { return b <= 0x7f })
	switch {
	case s == "":
		return 0, 0, api.ErrEnd
	case s[0] == 0x80, len(s) >= 7 && (last < 0 || last >= 7):
		return 0, 0, api.ErrText
	case last < 0:
		return 0, 0, api.ErrEnd
	case groupsOf(s[:last+1]) > most:
		return 0, 0, api.ErrArg
	}
	return groupsOf(s[:last+1]), last + 1, api.OK
}

// wantedRead is what Read answers of a frame with this text, by the chapter's list.
func wantedRead(body string) (wire.Msg, error) {
	var m wire.Msg
	var counts [2]int
	numbers := append(fields(&m), &counts[0], &counts[1])
	for i, x := range numbers {
		n, length, why := wantedNumber(body)
		if why != api.OK {
			return wire.Msg{}, fault(i+1, why)
		}
		*x, body = n, body[length:]
		if i >= 10 && n > len(body) {
			return wire.Msg{}, fault(i+1, api.ErrEnd)
		}
		if i == 10 {
			for _, b := range []byte(body[:n]) {
				m.Tokens = append(m.Tokens, int(b))
			}
			body = body[n:]
		}
	}
	m.Text, body = body[:counts[1]], body[counts[1]:]
	if len(body) > 0 {
		return wire.Msg{}, fault(13, api.ErrLen)
	}
	if e := wantedCheck(m); e != nil {
		return wire.Msg{}, e
	}
	return m, nil
}

// reads holds Read of a frame with this text against the chapter; of a text that is taken, that Write writes it; and tells the error.
func reads(t *testing.T, body string) error {
	t.Helper()
	s := framed(body)
	m, e := wire.Read(s)
	want, wantError := wantedRead(body)
	if e != wantError || !same(m, want) {
		t.Fatalf("Read of the text %x: %v, %#v, not %v, %#v", body[:min(80, len(body))], m, e, want, wantError)
	}
	if e != nil {
		if wire.Part(e) != wire.Part(wantError) || frame.Why(e) != frame.Why(wantError) || !frame.Is(e, frame.Why(wantError)) {
			t.Fatalf("%#v: part %d, %v", e, wire.Part(e), frame.Why(e))
		}
		return e
	}
	if again, e := wire.Write(m); e != nil || again != s {
		t.Fatalf("the text %x is taken, but isn't what Write writes: %x, %v", body[:min(80, len(body))], again[:min(80, len(again))], e)
	}
	return nil
}

// pieces are a right message's text, cut into the ten numbers, how many Tokens, Tokens, how many bytes, Text.
func pieces() []string {
	return []string{"\x04", "\x01", "\x82\x2c", "\x00", "\xa0\x80\x80\x80\x80\x00", "\x7f", "\x81\x00", "\x05", "\x00", "\x81\x80\x00", "\x03", "\x00\x80\xff", "\x04", "text"}
}

// with is the text of the pieces with another one at a place.
func with(at int, piece string) string {
	l := pieces()
	l[at] = piece
	return strings.Join(l, "")
}

// upTo is the text of the pieces ahead of a place, and this one.
func upTo(at int, piece string) string {
	return strings.Join(pieces()[:at], "") + piece
}

// partAt is the part of the piece at a place.
func partAt(at int) int {
	if at >= 12 {
		return 12
	}
	return min(at+1, 11)
}

// numberPlaces are the places of pieces that are numbers.
var numberPlaces = []int{0, 1, 2, 3, 4, 5, 6, 7, 8, 9, 10, 12}

// P15.2: numbers that begin with 80, in each part.
func TestReadLeading(t *testing.T) {
	for _, at := range numberPlaces {
		for _, piece := range []string{"\x80", "\x80\x00", "\x80\x01", "\x80\x81\x00", "\x80\x80\x80\x00", "\x80\xa0\x80\x80\x80\x80\x01", "\x80\x81\x81\x81\x81\x81\x81\x81", "\x80\x80\x80\x80\x80\x80", "\x80\xff\xff\xff\xff\xff", "\x80\x80\x80\x80\x80\x80\x80", "\x80\xa0\x80\x80\x80\x80\x80", "\x80\xff\xff\xff\xff\xff\xff", "\x80" + strings.Repeat("\xff", 20)} {
			is(t, reads(t, with(at, piece)), partAt(at), api.ErrText)
			is(t, reads(t, upTo(at, piece)), partAt(at), api.ErrText)
		}
	}
}

// P15.2: numbers of six, seven and more bytes, in each part.
func TestReadLong(t *testing.T) {
	for _, at := range numberPlaces {
		for _, piece := range []string{"\x81\x81\x81\x81\x81\x81\x81", "\x81\x80\x80\x80\x80\x80\x80", "\x81\x80\x80\x80\x80\x80\x80\x00", "\xa0\x80\x80\x80\x80\x80\x80\x01", "\x9f\xff\xff\xff\xff\xff\xff\x7f", "\x81" + strings.Repeat("\x80", 40)} {
			is(t, reads(t, with(at, piece)), partAt(at), api.ErrText)
			is(t, reads(t, upTo(at, piece)), partAt(at), api.ErrText)
		}
		for _, piece := range []string{"\x81\x80\x80\x80\x80\x80\x00", "\x81\x81\x81\x81\x81\x81\x7f", "\xa0\x80\x80\x80\x80\x80\x00", "\xff\xff\xff\xff\xff\xff\x7f"} {
			is(t, reads(t, with(at, piece)), partAt(at), api.ErrArg)
			is(t, reads(t, upTo(at, piece)), partAt(at), api.ErrArg)
		}
	}
}

// P15.2: numbers above Most that have their last byte, in each part, whatever follows.
func TestReadAboveMost(t *testing.T) {
	for _, at := range numberPlaces {
		for _, piece := range []string{"\xa0\x80\x80\x80\x80\x01", "\xa0\x80\x80\x80\x81\x00", "\xa1\x80\x80\x80\x80\x00", "\xff\xff\xff\xff\xff\x7f", "\xa0\x80\x80\x80\x80\x81\x00", "\xff\xff\xff\xff\xff\xff\x7f"} {
			for _, more := range []string{"", "\x00", "\x80", "\xff\xff\xff\xff\xff\xff\xff"} {
				is(t, reads(t, with(at, piece+more)), partAt(at), api.ErrArg)
				is(t, reads(t, upTo(at, piece+more)), partAt(at), api.ErrArg)
			}
		}
	}
	for at := 1; at < 10; at++ {
		for _, n := range []int{0, 127, 128, 1<<35 - 1, 1 << 35, most - 1, most} {
			if e := reads(t, with(at, number(n))); e != nil {
				t.Errorf("number %d is %d: %v", at+1, n, e)
			}
		}
	}
}

// unended are rows of so many bytes that have the highest bit set, the first of them not 80: groups that come to less than Most, to Most, and to more.
func unended(length int) []string {
	l := []string{"\x81", "\x9f", "\xa0", "\xa1", "\xc0", "\xff"}
	for range length - 1 {
		var longer []string
		for _, s := range l {
			longer = append(longer, s+"\x80", s+"\x81", s+"\xff")
		}
		l = longer
	}
	return l
}

// P15.2: numbers of which six bytes have the highest bit set, above Most and not, in each part: the text ends ahead of the last byte, or a seventh one is there.
func TestReadSixUnended(t *testing.T) {
	var below, above int
	for _, piece := range unended(6) {
		if groupsOf(piece) > most {
			above++
		} else {
			below++
		}
		for _, at := range numberPlaces {
			is(t, reads(t, upTo(at, piece)), partAt(at), api.ErrEnd)
			for _, last := range []string{"\x00", "\x01", "\x7f"} {
				is(t, reads(t, upTo(at, piece+last)), partAt(at), api.ErrArg)
				is(t, reads(t, with(at, piece+last)), partAt(at), api.ErrArg)
			}
		}
	}
	if below == 0 || above == 0 {
		t.Errorf("%d rows up to Most, %d above it", below, above)
	}
}

// P15.2: numbers of which seven bytes have the highest bit set, the first six groups above Most and not, in each part, whatever follows. (All seven come to at most Most only behind an 80: TestReadLeading.)
func TestReadSevenUnended(t *testing.T) {
	for _, piece := range unended(7) {
		for _, at := range numberPlaces {
			is(t, reads(t, upTo(at, piece)), partAt(at), api.ErrText)
			is(t, reads(t, upTo(at, piece+"\x00")), partAt(at), api.ErrText)
			is(t, reads(t, upTo(at, piece+"\xff")), partAt(at), api.ErrText)
			is(t, reads(t, with(at, piece)), partAt(at), api.ErrText)
		}
	}
}

// P15.2: numbers without a last byte in texts that are else as short as can be, their errors written out.
func TestReadUnendedShort(t *testing.T) {
	zeros := func(n int) string { return "\x06" + strings.Repeat("\x00", n) }
	for _, c := range []struct {
		body string
		part int
		why  api.Errno
	}{
		{"\xa0\x80\x80\x80\x80\x80", 1, api.ErrEnd},
		{"\xa0\x80\x80\x80\x80\x81", 1, api.ErrEnd},
		{"\xff\xff\xff\xff\xff\xff", 1, api.ErrEnd},
		{"\xa0\x80\x80\x80\x80\x81\x80", 1, api.ErrText},
		{"\xff\xff\xff\xff\xff\xff\xff", 1, api.ErrText},
		{"\xff\xff\xff\xff\xff\xff\xff\xff\x00", 1, api.ErrText},
		{zeros(8) + "\xc0\x80\x80\x80\x80\x80", 10, api.ErrEnd},
		{zeros(8) + "\xc0\x80\x80\x80\x80\x80\x80", 10, api.ErrText},
		{zeros(9) + "\xc0\x80\x80\x80\x80\x80", 11, api.ErrEnd},
		{zeros(9) + "\xc0\x80\x80\x80\x80\x80\x80", 11, api.ErrText},
		{zeros(10) + "\xc0\x80\x80\x80\x80\x80", 12, api.ErrEnd},
		{zeros(10) + "\xc0\x80\x80\x80\x80\x80\x80", 12, api.ErrText},
	} {
		is(t, reads(t, c.body), c.part, c.why)
	}
}

// P15.2: a text that ends at each of its bytes; the first piece that isn't whole is the part.
func TestReadEnd(t *testing.T) {
	whole := strings.Join(pieces(), "")
	if e := reads(t, whole); e != nil {
		t.Fatalf("the whole text: %v", e)
	}
	at, begin := 0, 0
	for n := range len(whole) {
		for n >= begin+len(pieces()[at]) {
			begin += len(pieces()[at])
			at++
		}
		is(t, reads(t, whole[:n]), partAt(at), api.ErrEnd)
	}
	for _, at := range numberPlaces {
		for _, piece := range []string{"", "\x81", "\x81\x80", "\xff\xff\xff\xff\xff", "\xa0\x80\x80\x80\x80", "\x81\x81\x81\x81\x81\x81", "\xa0\x80\x80\x80\x80\x80"} {
			is(t, reads(t, upTo(at, piece)), partAt(at), api.ErrEnd)
		}
	}
}

// P15.2: more Tokens, bytes, are told than are there; up to the greatest number that may be told.
func TestReadTooFew(t *testing.T) {
	for _, n := range []int{1, 2, 127, 128, 129, 16384, 1 << 31, 1 << 32, 1<<40 - 1, most} {
		for _, short := range []int{1, 2, n} {
			there := strings.Repeat("\x01", min(max(n-short, 0), 300))
			is(t, reads(t, upTo(10, number(n)+there)), 11, api.ErrEnd)
			is(t, reads(t, upTo(12, number(n)+there)), 12, api.ErrEnd)
		}
	}
	is(t, reads(t, upTo(12, number(50000)+strings.Repeat("x", 49999))), 12, api.ErrEnd)
	is(t, reads(t, upTo(12, number(50001)+strings.Repeat("x", 50000))), 12, api.ErrEnd)
}

// P15.2: bytes behind Text.
func TestReadBehind(t *testing.T) {
	whole := strings.Join(pieces(), "")
	for _, more := range []string{"\x00", "x", "\x80", "\xff\xff\xff\xff\xff\xff\xff", whole, strings.Repeat("\x00", 3000)} {
		is(t, reads(t, whole+more), 13, api.ErrLen)
	}
	is(t, reads(t, upTo(12, "\x00x")), 13, api.ErrLen)
	is(t, reads(t, upTo(12, "\x03text")), 13, api.ErrLen)
}

// P15.2: texts that are right but for Check: another kind, too many Tokens, a Text that is too long.
func TestReadCheck(t *testing.T) {
	for _, kind := range []int{0, 11, 12, 127, 128, 16384, most} {
		is(t, reads(t, with(0, number(kind))), 1, api.ErrKind)
	}
	many := number(129) + strings.Repeat("\x05", 129)
	long := number(50001) + strings.Repeat("x", 50001)
	is(t, reads(t, upTo(10, many+"\x00")), 11, api.ErrBig)
	is(t, reads(t, upTo(12, long)), 12, api.ErrBig)
	is(t, reads(t, upTo(10, many+long)), 11, api.ErrBig)
	is(t, reads(t, "\x0b"+upTo(10, many+long)[1:]), 1, api.ErrKind)
	is(t, reads(t, upTo(10, number(59000)+strings.Repeat("\xff", 59000)+"\x00")), 11, api.ErrBig)
	if e := reads(t, upTo(10, number(128)+strings.Repeat("\xff", 128)+number(50000)+strings.Repeat("x", 50000))); e != nil {
		t.Errorf("as much as may be: %v", e)
	}
}

// P15.2: what stands wrong in the text comes ahead of what Check says of it, even of a part that stands ahead.
func TestReadFormFirst(t *testing.T) {
	other := func(s string) string { return "\x0b" + s[1:] }
	many := number(129) + strings.Repeat("\x05", 129)
	long := number(50001) + strings.Repeat("x", 50001)
	is(t, reads(t, other(upTo(3, "\x80"))), 4, api.ErrText)
	is(t, reads(t, other(upTo(9, "\xff\xff\xff\xff\xff\x7f"))), 10, api.ErrArg)
	is(t, reads(t, other(upTo(10, ""))), 11, api.ErrEnd)
	is(t, reads(t, other(upTo(12, "\x01"))), 12, api.ErrEnd)
	is(t, reads(t, other(upTo(12, "\x00y"))), 13, api.ErrLen)
	is(t, reads(t, upTo(10, many+"\x80")), 12, api.ErrText)
	is(t, reads(t, upTo(10, many+"\x01")), 12, api.ErrEnd)
	is(t, reads(t, upTo(10, many+"\x00y")), 13, api.ErrLen)
	is(t, reads(t, upTo(12, long+"y")), 13, api.ErrLen)
}

// P15.2: two parts that are wrong: the first of them.
func TestReadFirstPart(t *testing.T) {
	wrong := []string{"\x80", "\x81\x81\x81\x81\x81\x81\x81", "\xff\xff\xff\xff\xff\xff\xff", "\xff\xff\xff\xff\xff\x7f", "\x80\x01"}
	for i, first := range numberPlaces {
		for _, second := range numberPlaces[i+1:] {
			for _, a := range wrong {
				for _, b := range wrong {
					l := pieces()
					l[first], l[second] = a, b
					if e := reads(t, strings.Join(l, "")+"behind"); wire.Part(e) != partAt(first) {
						t.Errorf("parts %d and %d: %d", partAt(first), partAt(second), wire.Part(e))
					}
				}
			}
		}
	}
}

// P15.2: frames that aren't right: in 0 the error of layer 14, whatever the text.
func TestReadFrames(t *testing.T) {
	good, _ := wire.Write(plain())
	spoilt := framed("\x80")
	for _, c := range []struct {
		s     string
		place int
		why   api.Errno
	}{
		{"", 0, api.ErrEnd},
		{"T", 1, api.ErrEnd},
		{good[:9], 9, api.ErrEnd},
		{"S" + good[1:], 0, api.ErrText},
		{"T\x02" + good[2:], 1, api.ErrOld},
		{"T\x01\x61\xea\x00\x00" + good[6:], 2, api.ErrBig},
		{good[:len(good)-1], len(good) - 1, api.ErrEnd},
		{good + "x", len(good), api.ErrLen},
		{good[:len(good)-1] + string([]byte{good[len(good)-1] ^ 1}), len(good) - 4, api.ErrSum},
		{"S" + spoilt[1:], 0, api.ErrText},
		{spoilt + "x", len(spoilt), api.ErrLen},
	} {
		m, e := wire.Read(c.s)
		if !zero(m) || e != error(wire.Bad{Part: 0, Err: frame.Fault{Place: c.place, Why: c.why}}) {
			t.Errorf("Read(%x): %v, %#v", c.s, m, e)
		}
		if wire.Part(e) != 0 || frame.Why(e) != c.why || frame.Place(e) != c.place || !frame.Is(e, c.why) {
			t.Errorf("Read(%x): part %d, %v at %d", c.s, wire.Part(e), frame.Why(e), frame.Place(e))
		}
	}
	for i := range 8 * len(good) {
		b := []byte(good)
		b[i/8] ^= 1 << (i % 8)
		_, want := frame.Unpack(string(b))
		if m, e := wire.Read(string(b)); !zero(m) || e != error(wire.Bad{Part: 0, Err: want}) {
			t.Errorf("bit %d turned: %v, %#v", i, m, e)
		}
	}
}

// P15.1, P15.2: any bytes in a frame, and any bytes as a frame.
func TestReadAny(t *testing.T) {
	r := rand.New(rand.NewSource(4))
	for n := range 80 {
		for range 300 {
			s := some(r, n)
			reads(t, s)
			small := []byte(s)
			for i := range small {
				small[i] &= 0x83
			}
			reads(t, string(small))
			_, want := frame.Unpack(s)
			if m, e := wire.Read(s); !zero(m) || e != error(wire.Bad{Part: 0, Err: want}) {
				t.Fatalf("Read(%x): %v, %#v", s, m, e)
			}
		}
	}
}

// P15.1, P15.2: right texts of which a byte or more became others, came twice or are gone.
func TestReadSpoilt(t *testing.T) {
	r := rand.New(rand.NewSource(5))
	seen := map[api.Errno]int{}
	for range 60000 {
		m := someMsg(r)
		m.Text, m.Tokens = m.Text[:min(len(m.Text), 9)], m.Tokens[:min(len(m.Tokens), 9)]
		b := []byte(bodyOf(m))
		for range 1 + r.Intn(3) {
			at := r.Intn(len(b) + 1)
			switch r.Intn(4) {
			case 0:
				b = append(b[:at], b[min(at+1, len(b)):]...)
			case 1:
				b = append(b[:at], append([]byte{byte(r.Intn(256))}, b[at:]...)...)
			case 2:
				b = append(b[:at], append([]byte{0x80, 0xff, 0x00, 0x81}[r.Intn(4):], b[at:]...)...)
			default:
				b[at%len(b)] ^= 1 << r.Intn(8)
			}
			if len(b) == 0 {
				break
			}
		}
		seen[frame.Why(reads(t, string(b)))]++
	}
	for _, why := range []api.Errno{api.OK, api.ErrText, api.ErrArg, api.ErrEnd, api.ErrLen, api.ErrKind} {
		if seen[why] == 0 {
			t.Errorf("%v wasn't seen", why)
		}
	}
}

// P15.1: every short row of some bytes, as the end of a text: each that is taken is what Write writes, and no two are one message.
func TestReadEveryEnd(t *testing.T) {
	letters := "\x00\x01\x02\x7f\x80\x81\xff"
	head := upTo(9, "")
	var walk func(tail string)
	walk = func(tail string) {
		reads(t, head+tail)
		if len(tail) == 6 {
			return
		}
		for i := range len(letters) {
			walk(tail + letters[i:i+1])
		}
	}
	walk("")
}
