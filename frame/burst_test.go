package frame_test

import (
	"math/rand"
	"strings"
	"testing"

	"tiller/frame"
)

// turn turns bits of s: those of pattern, its lowest one at bit at of s. Bits behind the end of s are left out.
func turn(s string, at int, pattern uint32) string {
	b := []byte(s)
	for i := range 32 {
		if k := at + i; pattern>>i&1 == 1 && k < 8*len(b) {
			b[k/8] ^= 1 << (k % 8)
		}
	}
	return string(b)
}

// refused holds that a frame of which bits were turned is refused, with no text beside the error.
func refused(t *testing.T, s string, at int, pattern uint32) {
	t.Helper()
	spoilt := turn(s, at, pattern)
	if spoilt == s {
		t.Fatalf("bits %x at %d turn nothing", pattern, at)
	}
	if body, e := frame.Unpack(spoilt); e == nil || body != "" {
		t.Fatalf("a frame of %d bytes with bits %x at %d turned: %d bytes, %v", len(s), pattern, at, len(body), e)
	}
}

// bodies are texts whose frames are spoilt.
func bodies() []string {
	r := rand.New(rand.NewSource(5))
	return []string{"", "\x00", "a", "hello", strings.Repeat("\x00", 32), strings.Repeat("\xff", 33), some(r, 100)}
}

// P14.2: each single bit, and each two bits within 32.
func TestFewBits(t *testing.T) {
	for _, body := range bodies() {
		s := framed(body)
		for at := range 8 * len(s) {
			refused(t, s, at, 1)
			for second := 1; second < 32 && at+second < 8*len(s); second++ {
				refused(t, s, at, 1|1<<second)
			}
		}
	}
}

// P14.2: bursts of each length, any bits between their ends, at each place of a frame: its head, its text, its sum and across them.
func TestBursts(t *testing.T) {
	r := rand.New(rand.NewSource(6))
	for _, body := range bodies() {
		s := framed(body)
		for length := 2; length <= 32; length++ {
			ends := uint32(1) | 1<<(length-1)
			for at := 0; at+length <= 8*len(s); at++ {
				refused(t, s, at, ends|^uint32(0)>>(32-length))
				refused(t, s, at, ends|r.Uint32()>>(32-length))
				refused(t, s, at, ends|r.Uint32()>>(32-length))
			}
		}
	}
}

// P14.2: every burst within 16 bits of a short frame, at each byte.
func TestEveryShortBurst(t *testing.T) {
	s := framed("ab")
	for at := 0; at+16 <= 8*len(s); at += 8 {
		for pattern := uint32(1); pattern < 1<<16; pattern++ {
			refused(t, s, at, pattern)
		}
	}
}

// P14.2: bits that the sum itself is made of, which turn a sum into another right one, were they a bit longer.
func TestPolynomial(t *testing.T) {
	for _, body := range bodies() {
		s := framed(body)
		for at := 0; at+32 <= 8*len(s); at++ {
			for _, pattern := range []uint32{0xdb710641, 0xedb88320, 0x82608edb, 0x04c11db7, 0x09823b6f, 0xffffffff, 0x80000001} {
				refused(t, s, at, pattern)
			}
		}
	}
}

// P14.2: the greatest frame, at its beginning, in its middle and at its end.
func TestBurstsOfGreatFrame(t *testing.T) {
	r := rand.New(rand.NewSource(7))
	s := framed(some(r, 60000))
	bits := 8 * len(s)
	for range 60 {
		for _, from := range []int{0, 40, bits / 2, bits - 96, bits - 64} {
			length := 1 + r.Intn(32)
			at := from + r.Intn(64-length+1)
			pattern := 1 | r.Uint32()>>(32-length)
			refused(t, s, at, pattern)
		}
	}
	for at := range 48 {
		refused(t, s, at, 1)
		refused(t, s, bits-1-at, 1)
	}
}

// P14.2: a told length that becomes that of a shorter or longer text is refused, whatever stands there.
func TestToldLengthTurned(t *testing.T) {
	inner := framed("x")
	for _, body := range []string{inner, inner[:7], strings.Repeat("\x00", 255), strings.Repeat(inner, 20)} {
		s := framed(body)
		for pattern := uint32(1); pattern < 1<<17; pattern++ {
			if pattern > 1<<12 && pattern&0xff > 1 {
				continue
			}
			refused(t, s, 16, pattern)
		}
	}
}
