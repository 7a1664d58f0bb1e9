package frame_test

import (
	"hash/crc32"
	"math"
	"math/rand"
	"strings"
	"testing"
	"unsafe"

	"tiller/api"
	"tiller/frame"
)

// bitSum is the cyclic sum, reckoned bit by bit as the chapter says it.
func bitSum(s string) uint32 {
	sum := uint32(math.MaxUint32)
	for i := range 8 * len(s) {
		bit := uint32(s[i/8]>>(i%8)) & 1
		low := sum & 1
		sum >>= 1
		if bit != low {
			sum ^= 0xedb88320
		}
	}
	return sum ^ math.MaxUint32
}

// four is a number in four bytes, the lowest first.
func four(n uint32) string {
	var b []byte
	for range 4 {
		b = append(b, byte(n%256))
		n /= 256
	}
	return string(b)
}

// framed is a text in a frame, as the chapter says it.
func framed(body string) string {
	s := "\x54\x01" + four(uint32(len(body))) + body
	return s + four(bitSum(s))
}

// told is a frame that tells another length than its text has; its sum is right.
func told(n uint32, body string) string {
	s := "\x54\x01" + four(n) + body
	return s + four(bitSum(s))
}

// some is a text of n bytes, any ones.
func some(r *rand.Rand, n int) string {
	b := make([]byte, n)
	r.Read(b)
	return string(b)
}

// texts are texts of many lengths.
func texts() []string {
	r := rand.New(rand.NewSource(1))
	l := []string{"", "123456789", "\x00", "\xff", "a", strings.Repeat("\x00", 40), strings.Repeat("\xff", 40), framed(""), framed("a"), "\x54\x01", "täglich"}
	for n := range 70 {
		l = append(l, some(r, n))
	}
	for _, n := range []int{255, 256, 257, 1000, 59999, 60000} {
		l = append(l, some(r, n), strings.Repeat("\x00", n), strings.Repeat("\xff", n))
	}
	return l
}

// holds tells whether an error is the Fault itself, not a pointer to one.
func holds(e error, place int, why api.Errno) bool {
	return e == error(frame.Fault{Place: place, Why: why})
}

// P14.1: Sum of no bytes, of the chapter's text, of single bytes and of many texts.
func TestSum(t *testing.T) {
	if s := frame.Sum("123456789"); s != 0xcbf43926 {
		t.Errorf("Sum of 123456789: %x", s)
	}
	if s := frame.Sum(""); s != 0 {
		t.Errorf("Sum of nothing: %x", s)
	}
	for b := range 256 {
		for c := range 256 {
			s := string([]byte{byte(b), byte(c)})
			if frame.Sum(s) != bitSum(s) || frame.Sum(s[:1]) != bitSum(s[:1]) {
				t.Fatalf("Sum of %x: %x, not %x", s, frame.Sum(s), bitSum(s))
			}
		}
	}
	r := rand.New(rand.NewSource(2))
	for _, s := range append(texts(), some(r, 60010), some(r, 200000)) {
		if got, want := frame.Sum(s), bitSum(s); got != want || want != crc32.ChecksumIEEE([]byte(s)) {
			t.Errorf("Sum of %d bytes: %x, not %x", len(s), got, want)
		}
	}
}

// P14.1: what Pack writes, and that Unpack reads it again.
func TestPack(t *testing.T) {
	for _, body := range texts() {
		s, e := frame.Pack(body)
		if e != nil || s != framed(body) {
			t.Errorf("Pack of %d bytes: %d bytes, %v", len(body), len(s), e)
		}
		if u, e := frame.Unpack(s); e != nil || u != body {
			t.Errorf("Unpack of %d bytes: %d bytes, %v", len(s), len(u), e)
		}
	}
}

// P14.1: Pack of MaxBody bytes and one more.
func TestPackBig(t *testing.T) {
	if frame.MaxBody != 60000 {
		t.Fatalf("MaxBody is %d", frame.MaxBody)
	}
	for _, n := range []int{59998, 59999, 60000} {
		if s, e := frame.Pack(strings.Repeat("x", n)); e != nil || len(s) != n+10 {
			t.Errorf("Pack of %d bytes: %d bytes, %v", n, len(s), e)
		}
	}
	for _, n := range []int{60001, 60002, 65535, 65536, 65537, 1 << 20, 1<<24 + 1} {
		if s, e := frame.Pack(strings.Repeat("x", n)); s != "" || !holds(e, 60000, api.ErrBig) {
			t.Errorf("Pack of %d bytes: %d bytes, %v at %d", n, len(s), e, frame.Place(e))
		}
	}
}

// P14.1, P2: a text that is answered has memory of its own, so that it doesn't keep the frame that it came in.
func TestUnpackApart(t *testing.T) {
	for _, body := range []string{"a", "123456789", strings.Repeat("x", 60000)} {
		s := framed(body)
		u, _ := frame.Unpack(s)
		if unsafe.StringData(u) == unsafe.StringData(s[6:]) {
			t.Errorf("a text of %d bytes lies in its frame", len(u))
		}
	}
}

// wanted is what Unpack answers, by the chapter's list.
func wanted(s string) (string, error) {
	n := len(s)
	fault := func(place int, why api.Errno) (string, error) { return "", frame.Fault{Place: place, Why: why} }
	if n < 10 {
		return fault(n, api.ErrEnd)
	}
	length := uint64(s[2]) + 256*uint64(s[3]) + 65536*uint64(s[4]) + 16777216*uint64(s[5])
	switch stand := uint64(n - 10); {
	case s[:1] != "T":
		return fault(0, api.ErrText)
	case s[1:2] != "\x01":
		return fault(1, api.ErrOld)
	case length > 60000:
		return fault(2, api.ErrBig)
	case stand < length:
		return fault(n, api.ErrEnd)
	case stand > length:
		return fault(10+int(length), api.ErrLen)
	case s[n-4:] != four(bitSum(s[:n-4])):
		return fault(n-4, api.ErrSum)
	}
	return s[6 : n-4], nil
}

// unpacks holds Unpack against wanted, and tells its error.
func unpacks(t *testing.T, s string) error {
	t.Helper()
	body, e := frame.Unpack(s)
	if u, want := wanted(s); body != u || e != want {
		t.Fatalf("Unpack of %d bytes, %x: %d bytes, %v at %d, not %d bytes, %v at %d", len(s), s[:min(len(s), 20)], len(body), e, frame.Place(e), len(u), want, frame.Place(want))
	}
	return e
}

// P14.1: each error by itself, and its place.
func TestUnpackErrors(t *testing.T) {
	s := framed("hello")
	for _, c := range []struct {
		s     string
		place int
		why   api.Errno
	}{
		{"", 0, api.ErrEnd},
		{s[:9], 9, api.ErrEnd},
		{"S" + s[1:], 0, api.ErrText},
		{"T\x00" + s[2:], 1, api.ErrOld},
		{"T\x02" + s[2:], 1, api.ErrOld},
		{told(60001, "hello"), 2, api.ErrBig},
		{told(1<<31, "hello"), 2, api.ErrBig},
		{told(math.MaxUint32, "hello"), 2, api.ErrBig},
		{told(60000, "hello"), 15, api.ErrEnd},
		{told(6, "hello"), 15, api.ErrEnd},
		{told(4, "hello"), 14, api.ErrLen},
		{told(0, "hello"), 10, api.ErrLen},
		{s[:6] + "jello" + s[11:], 11, api.ErrSum},
		{s[:14] + string([]byte{s[14] ^ 128}), 11, api.ErrSum},
		{s[:11] + "\x00\x00\x00\x00", 11, api.ErrSum},
	} {
		body, e := frame.Unpack(c.s)
		if body != "" || frame.Why(e) != c.why || frame.Place(e) != c.place {
			t.Errorf("Unpack(%x): %q, %v at %d, not %v at %d", c.s, body, e, frame.Place(e), c.why, c.place)
		}
		unpacks(t, c.s)
	}
}

// P14.1: two errors and more at once: the first that the chapter names.
func TestUnpackOrder(t *testing.T) {
	seen := map[api.Errno]int{}
	for _, first := range []string{"T", "\x00", "t", "\xd4"} {
		for _, second := range []string{"\x01", "\x00", "\x02", "\x81", "T"} {
			for _, length := range []uint32{0, 1, 2, 3, 4, 255, 256, 59999, 60000, 60001, 65536, 1 << 24, 1<<24 + 2, 1 << 31, 1<<32 - 1} {
				for _, body := range []string{"", "a", "ab", "abc", "abcd"} {
					ahead := first + second + four(length) + body
					for _, sum := range []uint32{bitSum(ahead), bitSum(ahead) ^ 1, 0} {
						s := ahead + four(sum)
						for n := range len(s) + 1 {
							seen[frame.Why(unpacks(t, s[:n]))]++
						}
						seen[frame.Why(unpacks(t, s+"x"))]++
					}
				}
			}
		}
	}
	for _, why := range []api.Errno{api.OK, api.ErrEnd, api.ErrText, api.ErrOld, api.ErrBig, api.ErrLen, api.ErrSum} {
		if seen[why] == 0 {
			t.Errorf("%v wasn't seen", why)
		}
	}
}

// P14.1: frames cut short at each length, and with bytes behind them.
func TestUnpackLengths(t *testing.T) {
	r := rand.New(rand.NewSource(3))
	for _, body := range []string{"", "a", "123456789", some(r, 300)} {
		s := framed(body)
		for n := range len(s) {
			if e := unpacks(t, s[:n]); !holds(e, n, api.ErrEnd) {
				t.Errorf("%d bytes of %d: %v", n, len(s), e)
			}
		}
		for n := 1; n < 300; n++ {
			if e := unpacks(t, s+some(r, n)); !holds(e, len(s), api.ErrLen) {
				t.Errorf("%d bytes and %d: %v", len(s), n, e)
			}
		}
		if e := unpacks(t, s+s); !holds(e, len(s), api.ErrLen) {
			t.Errorf("a frame twice: %v", e)
		}
	}
	s := framed(strings.Repeat("x", 60000))
	for _, n := range []int{0, 9, 10, 60000, 60008, 60009} {
		if e := unpacks(t, s[:n]); !holds(e, n, api.ErrEnd) {
			t.Errorf("%d bytes: %v", n, e)
		}
	}
	for _, n := range []int{1, 2, 5000, 100000} {
		if e := unpacks(t, s+some(r, n)); !holds(e, 60010, api.ErrLen) {
			t.Errorf("%d bytes more: %v", n, e)
		}
	}
	if e := unpacks(t, told(60001, strings.Repeat("x", 60001))); !holds(e, 2, api.ErrBig) {
		t.Errorf("a text that is too long: %v", e)
	}
}

// P14.1: any bytes.
func TestUnpackAny(t *testing.T) {
	r := rand.New(rand.NewSource(4))
	for n := range 60 {
		for range 200 {
			s := some(r, n)
			unpacks(t, s)
			unpacks(t, ("T\x01" + s)[:n])
			unpacks(t, "T\x01"+four(uint32(r.Intn(60)))+s)
		}
	}
}

// The chapter's example.
func TestExample(t *testing.T) {
	s, e := frame.Pack("a")
	if e != nil || len(s) != 11 || s[:7] != "\x54\x01\x01\x00\x00\x00\x61" {
		t.Fatalf("Pack: %x, %v", s, e)
	}
	if u, e := frame.Unpack(s); u != "a" || e != nil {
		t.Errorf("Unpack: %q, %v", u, e)
	}
	if u, e := frame.Unpack(""); u != "" || !holds(e, 0, api.ErrEnd) {
		t.Errorf("Unpack of nothing: %q, %v", u, e)
	}
	if u, e := frame.Unpack(s + "\x00"); u != "" || !holds(e, 11, api.ErrLen) {
		t.Errorf("Unpack of a byte more: %q, %v", u, e)
	}
	if u, e := frame.Unpack(s[:6] + "\x9e" + s[7:]); u != "" || !holds(e, 7, api.ErrSum) {
		t.Errorf("Unpack of another byte: %q, %v", u, e)
	}
}
