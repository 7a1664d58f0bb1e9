package recv_test

import (
	"fmt"
	"math"
	"math/rand"
	"slices"
	"strings"
	"testing"

	"tiller/api"
	"tiller/recv"
	"tiller/send"
)

// P21.1: Begin at, below and above its bounds, of any number.
func TestBegin(t *testing.T) {
	rows := []struct {
		of int
		e  api.Errno
	}{
		{math.MinInt, api.ErrArg}, {math.MinInt + 1, api.ErrArg}, {-512, api.ErrArg}, {-1, api.ErrArg}, {0, api.ErrArg},
		{1, api.OK}, {2, api.OK}, {511, api.OK}, {512, api.OK},
		{513, api.ErrBig}, {4096, api.ErrBig}, {1 << 40, api.ErrBig}, {math.MaxInt, api.ErrBig},
	}
	for _, x := range rows {
		for _, num := range []int{math.MinInt, -1, 0, 7, math.MaxInt} {
			s, e := recv.Begin(num, x.of)
			want := recv.State{}
			if x.e == api.OK {
				want = recv.State{Num: num, Parts: make([]string, x.of), Came: make([]bool, x.of)}
			}
			if e != x.e || !sameState(s, want) {
				t.Errorf("Begin %d, %d: %+v, %d", num, x.of, s, e)
			}
			if recv.Missing(s) != len(want.Parts) {
				t.Errorf("Begin %d, %d: %d missing", num, x.of, recv.Missing(s))
			}
			if text, ok := recv.Whole(s); ok || text != "" {
				t.Errorf("Begin %d, %d: whole", num, x.of)
			}
		}
	}
}

// answer is what Take answers.
type answer struct {
	state recv.State
	isNew bool
	e     api.Errno
}

// ask calls the program.
func ask(s recv.State, p send.Part) answer {
	u, isNew, e := recv.Take(s, p)
	return answer{u, isNew, e}
}

// right is whether a state is right, as the chapter tells it.
func right(s recv.State) bool {
	return len(s.Parts) >= 1 && len(s.Came) == len(s.Parts)
}

// wanted is Take as the chapter tells it; the state that is handed in is changed.
func wanted(s recv.State, p send.Part) answer {
	switch {
	case !right(s):
		return answer{s, false, api.ErrForm}
	case p.Num != s.Num:
		return answer{s, false, api.ErrOld}
	case p.Of != len(s.Parts), p.At < 0, p.At > len(s.Parts)-1:
		return answer{s, false, api.ErrArg}
	case len(p.Text) > 4096:
		return answer{s, false, api.ErrBig}
	case s.Came[p.At] && s.Parts[p.At] != p.Text:
		return answer{s, false, api.ErrThere}
	case s.Came[p.At]:
		return answer{s, false, api.OK}
	}
	s.Parts[p.At], s.Came[p.At] = p.Text, true
	return answer{s, true, api.OK}
}

// whole is Whole as the chapter tells it.
func whole(s recv.State) (string, bool) {
	if !right(s) || slices.Contains(s.Came, false) {
		return "", false
	}
	text := ""
	for _, p := range s.Parts {
		text += p
	}
	return text, true
}

// missing is Missing as the chapter tells it.
func missing(s recv.State) int {
	n := len(s.Parts)
	for at := range min(len(s.Parts), len(s.Came)) {
		if s.Came[at] {
			n--
		}
	}
	return n
}

// sameState tells whether two states are the same; no list and an empty one are.
func sameState(s, u recv.State) bool {
	return s.Num == u.Num && slices.Equal(s.Parts, u.Parts) && slices.Equal(s.Came, u.Came)
}

// same tells whether two answers are the same.
func same(a, b answer) bool {
	return sameState(a.state, b.state) && a.isNew == b.isNew && a.e == b.e
}

// deep is a state by itself.
func deep(s recv.State) recv.State {
	s.Parts, s.Came = slices.Clone(s.Parts), slices.Clone(s.Came)
	return s
}

// spoil changes all that a state's lists hold, and the room behind them.
func spoil(s recv.State) {
	for i, l := 0, s.Parts[:cap(s.Parts)]; i < len(l); i++ {
		l[i] += "spoilt"
	}
	for i, l := 0, s.Came[:cap(s.Came)]; i < len(l); i++ {
		l[i] = !l[i]
	}
}

// look holds Whole and Missing against the chapter.
func look(t *testing.T, s recv.State) {
	t.Helper()
	was := deep(s)
	text, ok := recv.Whole(s)
	if want, is := whole(deep(s)); text != want || ok != is {
		t.Fatalf("Whole of %+v: %q, %v", was, text, ok)
	}
	if n := recv.Missing(s); n != missing(s) {
		t.Fatalf("Missing of %+v: %d", was, n)
	}
	if !sameState(s, was) {
		t.Fatalf("%+v was changed into %+v", was, s)
	}
}

// check holds Take against the chapter, and asks that neither the state that is handed in nor what is answered changes with the other.
func check(t *testing.T, s recv.State, p send.Part) answer {
	t.Helper()
	was := deep(s)
	want := wanted(deep(s), p)
	first := ask(s, p)
	if !same(first, want) {
		t.Fatalf("%+v comes to %+v: %+v, not %+v", p, was, first, want)
	}
	spoil(first.state)
	if !sameState(s, was) {
		t.Fatalf("%+v changed %+v into %+v", p, was, s)
	}
	handed := deep(s)
	second := ask(handed, p)
	spoil(handed)
	if !same(second, want) {
		t.Fatalf("%+v comes to %+v: the answer changed with the state: %+v", p, was, second)
	}
	look(t, second.state)
	return second
}

// far are numbers below, at and above nought, and far from it.
func far(more ...int) []int {
	return append([]int{math.MinInt, math.MinInt + 1, -2, -1, 0, 1, 2, math.MaxInt - 1, math.MaxInt}, more...)
}

// pick is one of some things.
func pick[T any](r *rand.Rand, l ...T) T {
	return l[r.Intn(len(l))]
}

// someText is a part's, of as many bytes as it may have, and of one more, among others.
func someText(r *rand.Rand) string {
	return pick(r, "", "a", "bc", "\xff\x00", strings.Repeat("x", 4096), strings.Repeat("x", 4097))
}

// someState is any state: Came may have fewer and more places than there are parts.
func someState(r *rand.Rand) recv.State {
	s := recv.State{Num: pick(r, far(7)...)}
	for range r.Intn(6) {
		s.Parts = append(s.Parts, someText(r))
	}
	length := len(s.Parts)
	if r.Intn(4) == 0 {
		length = r.Intn(8)
	}
	all := r.Intn(3) == 0
	for range length {
		s.Came = append(s.Came, all || r.Intn(2) == 0)
	}
	return s
}

// somePart is any part; most are such that a state takes them.
func somePart(r *rand.Rand, s recv.State) send.Part {
	length := len(s.Parts)
	p := send.Part{Num: s.Num, At: r.Intn(length + 1), Of: length, Text: someText(r)}
	if p.At < length && r.Intn(3) == 0 {
		p.Text = s.Parts[p.At]
	}
	if r.Intn(5) == 0 {
		p.Num = pick(r, far()...)
	}
	if r.Intn(5) == 0 {
		p.Of = pick(r, far(length-1, length+1)...)
	}
	if r.Intn(5) == 0 {
		p.At = pick(r, far(length-1, length, length+1)...)
	}
	return p
}

// P21.1, P21.3: each call of any state; each answer there is comes up.
func TestAnyState(t *testing.T) {
	seen := map[string]int{}
	r := rand.New(rand.NewSource(1))
	for range 20000 {
		s := someState(r)
		look(t, s)
		a := check(t, s, somePart(r, s))
		_, ok := recv.Whole(s)
		seen[fmt.Sprint("Take ", a.isNew, " ", int(a.e))]++
		seen[fmt.Sprint("Whole ", ok, " ", right(s), " ", recv.Missing(s) == 0)]++
	}
	for _, k := range []string{
		"Take true 0", "Take false 0", "Take false 4", "Take false 14", "Take false 1", "Take false 2", "Take false 9",
		"Whole true true true", "Whole false true false", "Whole false false true", "Whole false false false",
	} {
		if seen[k] < 100 {
			t.Errorf("%s came up %d times", k, seen[k])
		}
	}
}

// everyCame are all lists of at most so many places.
func everyCame(most int) [][]bool {
	l := [][]bool{nil}
	for from, length := 0, 1; length <= most; length++ {
		to := len(l)
		for _, c := range l[from:to] {
			l = append(l, append(slices.Clone(c), false), append(slices.Clone(c), true))
		}
		from = to
	}
	return l
}

// P21.1, P21.3: every state of at most three parts, with at most five places in Came, and every kind of part.
func TestEveryState(t *testing.T) {
	big := strings.Repeat("x", 4097)
	for _, came := range everyCame(5) {
		for length := range 4 {
			s := recv.State{Num: 7, Parts: []string{"ab", "", "c"}[:length], Came: came}
			look(t, s)
			for _, num := range []int{6, 7, -7} {
				for _, of := range []int{math.MinInt, -1, 0, 1, 2, 3, 4, math.MaxInt} {
					for _, at := range []int{math.MinInt, -1, 0, 1, 2, 3, 4, math.MaxInt} {
						for _, text := range []string{"", "ab", "c", big, big[1:]} {
							check(t, s, send.Part{Num: num, At: at, Of: of, Text: text})
						}
					}
				}
			}
		}
	}
}

// P21.1: of two and more errors the first that the chapter names, by their numbers; beside one the state is as it was.
func TestFirstError(t *testing.T) {
	big := strings.Repeat("x", 4097)
	good := recv.State{Num: 7, Parts: []string{"a", "", big}, Came: []bool{true, false, true}}
	none := recv.State{Num: 7}
	short := recv.State{Num: 7, Parts: good.Parts, Came: good.Came[:2]}
	long := recv.State{Num: 7, Parts: good.Parts, Came: []bool{true, false, true, false}}
	rows := []struct {
		s recv.State
		p send.Part
		e api.Errno
	}{
		{recv.State{}, send.Part{}, api.ErrForm},
		{none, send.Part{Num: 8, At: -1, Of: 4, Text: big}, api.ErrForm},
		{none, send.Part{Num: 7}, api.ErrForm},
		{short, send.Part{Num: 8, At: 0, Of: 3, Text: "b"}, api.ErrForm},
		{short, send.Part{Num: 7, At: 0, Of: 3, Text: "a"}, api.ErrForm},
		{long, send.Part{Num: 7, At: 5, Of: 3, Text: "b"}, api.ErrForm},
		{long, send.Part{Num: 7, At: 1, Of: 3, Text: "b"}, api.ErrForm},
		{good, send.Part{Num: 8, At: -1, Of: 4, Text: big}, api.ErrOld},
		{good, send.Part{Num: 6, At: 0, Of: 3, Text: "b"}, api.ErrOld},
		{good, send.Part{Num: 8, At: 1, Of: 3, Text: "b"}, api.ErrOld},
		{good, send.Part{Num: 7, At: 1, Of: 4, Text: big}, api.ErrArg},
		{good, send.Part{Num: 7, At: 0, Of: 2, Text: "b"}, api.ErrArg},
		{good, send.Part{Num: 7, At: -1, Of: 3, Text: big}, api.ErrArg},
		{good, send.Part{Num: 7, At: 3, Of: 3, Text: big}, api.ErrArg},
		{good, send.Part{Num: 7, At: 3, Of: 4, Text: "b"}, api.ErrArg},
		{good, send.Part{Num: 7, At: 0, Of: 3, Text: big}, api.ErrBig},
		{good, send.Part{Num: 7, At: 1, Of: 3, Text: big}, api.ErrBig},
		{good, send.Part{Num: 7, At: 2, Of: 3, Text: big}, api.ErrBig},
		{good, send.Part{Num: 7, At: 2, Of: 3, Text: big[1:]}, api.ErrThere},
		{good, send.Part{Num: 7, At: 0, Of: 3, Text: ""}, api.ErrThere},
		{good, send.Part{Num: 7, At: 0, Of: 3, Text: "a"}, api.OK},
		{good, send.Part{Num: 7, At: 1, Of: 3, Text: big[1:]}, api.OK},
	}
	for i, x := range rows {
		u, isNew, e := recv.Take(x.s, x.p)
		if e != x.e {
			t.Errorf("row %d: %d, not %d", i, e, x.e)
		}
		if e != api.OK && (isNew || !sameState(u, x.s)) {
			t.Errorf("row %d: %v, and the state isn't as it was", i, isNew)
		}
	}
}

// P21.1: what stands in a part that hasn't come counts for nothing; an empty part comes like others.
func TestPartsThatHaveNotCome(t *testing.T) {
	s := recv.State{Num: 7, Parts: []string{"old", "b"}, Came: []bool{false, true}}
	if text, ok := recv.Whole(s); ok || text != "" || recv.Missing(s) != 1 {
		t.Errorf("%q, %v, %d", text, ok, recv.Missing(s))
	}
	a := check(t, s, send.Part{Num: 7, At: 0, Of: 2})
	if text, ok := recv.Whole(a.state); !a.isNew || text != "b" || !ok {
		t.Errorf("%+v: %q, %v", a, text, ok)
	}
	again := check(t, a.state, send.Part{Num: 7, At: 0, Of: 2})
	if again.isNew || again.e != api.OK || !sameState(again.state, a.state) {
		t.Errorf("again: %+v", again)
	}
	if e := check(t, a.state, send.Part{Num: 7, At: 0, Of: 2, Text: "old"}).e; e != api.ErrThere {
		t.Errorf("with another text: %d", e)
	}
}

// P21.1: a state that isn't right is never whole, though no part of it be missing.
func TestNotRight(t *testing.T) {
	rows := []struct {
		s recv.State
		n int
	}{
		{recv.State{}, 0},
		{recv.State{Came: []bool{true, false}}, 0},
		{recv.State{Parts: []string{"a", "b"}}, 2},
		{recv.State{Parts: []string{"a", "b"}, Came: []bool{true}}, 1},
		{recv.State{Parts: []string{"a", "b"}, Came: []bool{true, true, true}}, 0},
		{recv.State{Parts: []string{"a", "b"}, Came: []bool{true, true, false}}, 0},
	}
	for _, x := range rows {
		if text, ok := recv.Whole(x.s); ok || text != "" || recv.Missing(x.s) != x.n {
			t.Errorf("%+v: %q, %v, %d", x.s, text, ok, recv.Missing(x.s))
		}
	}
}

// The chapter's example.
func TestExample(t *testing.T) {
	s, e := recv.Begin(7, 2)
	if e != api.OK {
		t.Errorf("Begin: %d", e)
	}
	s, isNew, e := recv.Take(s, send.Part{Num: 7, At: 1, Of: 2, Text: "b"})
	if !isNew || e != api.OK {
		t.Errorf("b: %v, %d", isNew, e)
	}
	s, isNew, e = recv.Take(s, send.Part{Num: 7, At: 1, Of: 2, Text: "b"})
	if isNew || e != api.OK {
		t.Errorf("b again: %v, %d", isNew, e)
	}
	s, isNew, e = recv.Take(s, send.Part{Num: 7, At: 1, Of: 2, Text: "c"})
	if isNew || e != api.ErrThere {
		t.Errorf("c: %v, %d", isNew, e)
	}
	s, isNew, e = recv.Take(s, send.Part{Num: 7, At: 0, Of: 2, Text: "a"})
	if text, ok := recv.Whole(s); !isNew || e != api.OK || text != "ab" || !ok {
		t.Errorf("a: %v, %d, %q, %v", isNew, e, text, ok)
	}
}
