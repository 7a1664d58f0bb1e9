package recv_test

import (
	"slices"
	"strings"
	"testing"
	"unsafe"

	"tiller/recv"
	"tiller/send"
)

// shares tells whether two texts lie in the same memory.
func shares(a, b string) bool {
	x, y := uintptr(unsafe.Pointer(unsafe.StringData(a))), uintptr(unsafe.Pointer(unsafe.StringData(b)))
	return len(a) > 0 && len(b) > 0 && x < y+uintptr(len(b)) && y < x+uintptr(len(a))
}

// apart asks that no two of some texts share memory.
func apart(t *testing.T, what string, l []string) {
	t.Helper()
	for i := range l {
		for j := range i {
			if shares(l[i], l[j]) {
				t.Fatalf("%s: %d and %d share memory", what, i, j)
			}
		}
	}
}

// P21.3: texts in an answer lie neither in the state and the part that were handed in nor in another answer, beside errors, too.
func TestTakeApart(t *testing.T) {
	b := strings.Repeat("b", 50)
	parts := []send.Part{
		{Num: 7, At: 1, Of: 3, Text: b},
		{Num: 7, At: 0, Of: 3, Text: strings.Repeat("a", 50)},
		{Num: 7, At: 0, Of: 3, Text: "another"},
		{Num: 8, At: 1, Of: 3, Text: b[:20]},
		{Num: 7, At: 3, Of: 3},
		{Num: 7, At: 1, Of: 3, Text: strings.Repeat("b", 4097)},
	}
	for _, came := range [][]bool{{true, false, false}, {true, false}, {true, false, true, false}} {
		for _, p := range parts {
			s := recv.State{Num: 7, Parts: []string{strings.Repeat("a", 50), "", strings.Repeat("c", 50)}, Came: came}
			first, _, _ := recv.Take(s, p)
			then, _, _ := recv.Take(s, p)
			apart(t, "Take", slices.Concat([]string{p.Text}, s.Parts, first.Parts, then.Parts))
		}
	}
}

// P21.3: what is whole lies neither in the state nor in another answer, also of one part, and of one beside empty ones.
func TestWholeApart(t *testing.T) {
	a := strings.Repeat("a", 50)
	for _, parts := range [][]string{{a}, {"", a}, {a, "", ""}, {a, strings.Repeat("b", 50)}} {
		s := recv.State{Num: 7, Parts: parts, Came: slices.Repeat([]bool{true}, len(parts))}
		first, ok := recv.Whole(s)
		then, again := recv.Whole(s)
		if !ok || !again || first != strings.Join(parts, "") {
			t.Errorf("%q: %q, %v", parts, first, ok)
		}
		apart(t, "Whole", slices.Concat([]string{first, then}, parts))
	}
}

// roomyState is a state of which each list has spare room behind it.
func roomyState(parts []string, came []bool) recv.State {
	p := append(slices.Clone(parts), "spare", "spare", "spare")
	c := append(slices.Clone(came), true, false, true)
	return recv.State{Num: 7, Parts: p[:len(parts)], Came: c[:len(came)]}
}

// P21.3: no call writes into the lists that it is handed, nor into the room behind them; two answers change apart from each other.
func TestSpareRoom(t *testing.T) {
	for _, came := range everyCame(4) {
		for length := range 4 {
			parts := []string{"ab", "", "c"}[:length]
			for at := -1; at < 5; at++ {
				p := send.Part{Num: 7, At: at, Of: length, Text: "ab"}
				s := roomyState(parts, came)
				recv.Whole(s)
				recv.Missing(s)
				u, _, _ := recv.Take(s, p)
				v, _, _ := recv.Take(s, p)
				was := deep(v)
				spoil(u)
				if !sameState(s, recv.State{Num: 7, Parts: parts, Came: came}) || !sameState(v, was) {
					t.Fatalf("%+v comes to %v, %v: %+v", p, parts, came, s)
				}
				if !slices.Equal(s.Parts[length:length+3], []string{"spare", "spare", "spare"}) || !slices.Equal(s.Came[len(came):len(came)+3], []bool{true, false, true}) {
					t.Fatalf("%+v comes to %v, %v: written behind a list", p, parts, came)
				}
			}
		}
	}
}

// P21.3: two states that were begun alike are apart.
func TestBegunApart(t *testing.T) {
	first, _ := recv.Begin(7, 3)
	then, _ := recv.Begin(7, 3)
	spoil(first)
	if !sameState(then, recv.State{Num: 7, Parts: make([]string, 3), Came: make([]bool, 3)}) {
		t.Errorf("%+v", then)
	}
}
