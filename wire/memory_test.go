package wire_test

import (
	"math/rand"
	"slices"
	"strings"
	"testing"
	"unsafe"

	"tiller/wire"
)

// roomy is a list with spare room behind it, full of 77.
func roomy(l []int) []int {
	r := append(slices.Clone(l), row(8, 77)...)
	return r[:len(l)]
}

// spoilt tells whether a roomy list, or the room behind it, isn't as it was.
func spoilt(l, was []int) bool {
	return !slices.Equal(l, was) || !slices.Equal(l[len(l):len(l)+8], row(8, 77))
}

// overwrite puts a number into all of a list, and into the room behind it.
func overwrite(l []int, number int) {
	l = l[:cap(l)]
	for i := range l {
		l[i] = number
	}
}

// P15.3: what is handed in isn't changed, nor the room behind it.
func TestHandedInUnchanged(t *testing.T) {
	for _, tokens := range [][]int{nil, {}, {0}, {1, 2, 3}, {255, 256}, {-1}, row(128, 9), row(129, 9), {3, 2, 1, 3}} {
		for kind := range 12 {
			m := plain()
			m.Kind, m.Tokens = kind, roomy(tokens)
			was := m
			wire.Check(m)
			wire.Write(m)
			if spoilt(m.Tokens, tokens) || !same(m, was) {
				t.Errorf("%v was changed: %v", tokens, m.Tokens[:cap(m.Tokens)])
			}
		}
	}
}

// P15.3: what becomes of a message later changes no frame, and no other message.
func TestHandedInNotKept(t *testing.T) {
	m := plain()
	m.Tokens = roomy([]int{4, 5, 6})
	s, _ := wire.Write(m)
	was := strings.Clone(s)
	overwrite(m.Tokens, 9)
	if again, _ := wire.Write(m); s != was || again == s {
		t.Error("a frame was changed")
	}
	if back, e := wire.Read(s); e != nil || !slices.Equal(back.Tokens, []int{4, 5, 6}) {
		t.Errorf("Read: %v, %v", back, e)
	}
}

// P15.3: a change of a message that was answered changes no other one.
func TestAnswersApart(t *testing.T) {
	r := rand.New(rand.NewSource(6))
	for range 500 {
		m := someMsg(r)
		s, _ := wire.Write(m)
		first, _ := wire.Read(s)
		then, _ := wire.Read(s)
		overwrite(first.Tokens, 99)
		first.Tokens = append(first.Tokens, 98)
		if last, e := wire.Read(s); e != nil || !same(then, m) || !same(last, m) {
			t.Fatalf("a change of an answer changed another one: %v, %v", then, e)
		}
	}
}

// within tells whether a text lies in the memory of another one.
func within(s, other string) bool {
	at, from := uintptr(unsafe.Pointer(unsafe.StringData(s))), uintptr(unsafe.Pointer(unsafe.StringData(other)))
	return at >= from && at < from+uintptr(len(other))
}

// P15.3: a text that is answered lies neither in its frame nor in another answer, a frame not in a message.
func TestTextApart(t *testing.T) {
	for _, text := range []string{"x", "123456789", strings.Repeat("x", 50000)} {
		m := plain()
		m.Text = text
		s, _ := wire.Write(m)
		first, _ := wire.Read(s)
		then, _ := wire.Read(s)
		if within(first.Text, s) || within(first.Text, then.Text) || within(s, m.Text) {
			t.Errorf("a text of %d bytes shares memory", len(text))
		}
	}
}
