package send_test

import (
	"slices"
	"strings"
	"testing"
	"unsafe"

	"tiller/send"
)

// shares tells whether two texts lie in the same memory.
func shares(a, b string) bool {
	x, y := uintptr(unsafe.Pointer(unsafe.StringData(a))), uintptr(unsafe.Pointer(unsafe.StringData(b)))
	return len(a) > 0 && len(b) > 0 && x < y+uintptr(len(b)) && y < x+uintptr(len(a))
}

// apart asks that no two of some texts share memory.
func apart(t *testing.T, what string, l []string) {
	t.Helper()
	for i := range l {
		for j := range i {
			if shares(l[i], l[j]) {
				t.Fatalf("%s: %d and %d share memory", what, i, j)
			}
		}
	}
}

// P20.2: parts that are cut lie neither in the text nor in one another, also if there is just one.
func TestCutApart(t *testing.T) {
	for _, length := range []int{1, 10, 11, 100} {
		whole := strings.Repeat("0123456789", 11)[:length]
		first, _ := send.Cut(whole, 10)
		then, _ := send.Cut(whole, 10)
		begun, _ := send.Begin(1, whole, 10)
		again, _ := send.Begin(1, whole, 10)
		apart(t, "Cut, Begin", slices.Concat([]string{whole}, first, then, begun.Parts, again.Parts))
		spoil(begun)
		if !slices.Equal(first, then) || !slices.Equal(again.Parts, first) || slices.Contains(again.Came, true) {
			t.Errorf("%d bytes: a change of one answer changed another one", length)
		}
	}
}

// P20.2: texts in an answer lie neither in the state that was handed in nor in another answer.
func TestAnswersApart(t *testing.T) {
	for _, came := range [][]bool{nil, {true}, {true, false, true}, {false, false, false, true}} {
		s := send.State{Num: 7, Parts: []string{strings.Repeat("a", 50), strings.Repeat("b", 50), strings.Repeat("c", 50)}, Came: came}
		texts := slices.Clone(s.Parts)
		for range 2 {
			for _, p := range send.Next(s, 3) {
				texts = append(texts, p.Text)
			}
			for _, x := range []call{{num: 7, at: 1}, {num: 7, at: 0}, {num: 8, at: 1}, {num: 7, at: 3}} {
				u, _ := send.Got(s, x.num, x.at)
				texts = append(texts, u.Parts...)
			}
		}
		apart(t, "Next, Got", texts)
	}
}

// roomyState is a state of which each list has spare room behind it.
func roomyState(parts []string, came []bool) send.State {
	p := append(slices.Clone(parts), "spare", "spare", "spare")
	c := append(slices.Clone(came), true, false, true)
	return send.State{Num: 7, Parts: p[:len(parts)], Came: c[:len(came)]}
}

// P20.2: no call writes into the lists that it is handed, nor into the room behind them.
func TestSpareRoom(t *testing.T) {
	for _, came := range everyCame(4) {
		for length := range 4 {
			parts := []string{"ab", "", "c"}[:length]
			for _, at := range []int{-1, 0, 1, 2, 3} {
				for _, num := range []int{7, 8} {
					s := roomyState(parts, came)
					send.Left(s)
					send.Next(s, 2)
					send.Over(s)
					u, _ := send.Got(s, num, at)
					v, _ := send.Got(s, num, at)
					was := deep(v)
					spoil(u)
					if !sameState(s, send.State{Num: 7, Parts: parts, Came: came}) || !sameState(v, was) {
						t.Fatalf("Got %d, %d of %v, %v: %+v", num, at, parts, came, s)
					}
					if !slices.Equal(s.Parts[length:length+3], []string{"spare", "spare", "spare"}) || !slices.Equal(s.Came[len(came):len(came)+3], []bool{true, false, true}) {
						t.Fatalf("Got %d, %d of %v, %v wrote behind a list", num, at, parts, came)
					}
				}
			}
		}
	}
}
