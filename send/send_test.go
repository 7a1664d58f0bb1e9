package send_test

import (
	"fmt"
	"math"
	"math/rand"
	"slices"
	"strings"
	"testing"

	"tiller/api"
	"tiller/send"
)

// text is one of so many bytes that doesn't soon repeat itself, so that a part in a wrong place shows.
func text(length int) string {
	b := make([]byte, length)
	for i := range b {
		b[i] = byte(i ^ i>>7 ^ i>>12)
	}
	return string(b)
}

// cut is Cut as the chapter tells it.
func cut(s string, size int) ([]string, api.Errno) {
	switch {
	case size < 1:
		return nil, api.ErrArg
	case size > 4096, len(s) > size*512:
		return nil, api.ErrBig
	case s == "":
		return []string{""}, api.OK
	}
	var parts []string
	for from := 0; from < len(s); from += size {
		parts = append(parts, s[from:min(from+size, len(s))])
	}
	return parts, api.OK
}

// checkCut holds Cut and Begin against the chapter.
func checkCut(t *testing.T, s string, size int) {
	t.Helper()
	want, fault := cut(s, size)
	if l, e := send.Cut(s, size); e != fault || !slices.Equal(l, want) {
		t.Fatalf("Cut of %d bytes by %d: %d parts, %d, not %d, %d", len(s), size, len(l), e, len(want), fault)
	}
	for _, num := range []int{math.MinInt, -1, 0, 7, math.MaxInt} {
		u, e := send.Begin(num, s, size)
		state := send.State{Num: num, Parts: want, Came: make([]bool, len(want))}
		if fault != api.OK {
			state = send.State{}
		}
		if e != fault || !sameState(u, state) {
			t.Fatalf("Begin %d of %d bytes by %d: %d parts, %d, not %d, %d", num, len(s), size, len(u.Parts), e, len(want), fault)
		}
	}
}

// P20.1: Cut and Begin of texts about a whole number of parts, and about the greatest number of them.
func TestCutAboutWholeParts(t *testing.T) {
	for _, size := range []int{1, 2, 3, 7, 255, 256, 257, 4095, 4096} {
		for _, whole := range []int{0, 1, 2, 3, 511, 512, 513} {
			for _, more := range []int{-1, 0, 1} {
				if length := whole*size + more; length >= 0 {
					checkCut(t, text(length), size)
				}
			}
		}
	}
}

// P20.1: Cut and Begin of every short text by every small size.
func TestCutSmall(t *testing.T) {
	for length := range 70 {
		for size := -3; size <= length+3; size++ {
			checkCut(t, text(length), size)
		}
	}
}

// P20.1: sizes that aren't right, whatever the text is; a size times 512 that wraps round is none the less too big.
func TestCutWrongSizes(t *testing.T) {
	sizes := []struct {
		size int
		e    api.Errno
	}{
		{math.MinInt, api.ErrArg}, {math.MinInt + 1, api.ErrArg}, {-1 << 55, api.ErrArg}, {-4096, api.ErrArg}, {-1, api.ErrArg}, {0, api.ErrArg},
		{1, api.OK}, {4096, api.OK}, {4097, api.ErrBig}, {4098, api.ErrBig}, {65536, api.ErrBig}, {1 << 32, api.ErrBig},
		{1 << 54, api.ErrBig}, {1 << 55, api.ErrBig}, {math.MaxInt - 1, api.ErrBig}, {math.MaxInt, api.ErrBig},
	}
	for _, x := range sizes {
		for _, length := range []int{0, 1, 512, 513, 4096 * 512, 4096*512 + 1} {
			checkCut(t, text(length), x.size)
		}
		for _, length := range []int{0, 1, 512} {
			if _, e := send.Cut(text(length), x.size); e != x.e {
				t.Errorf("Cut of %d bytes by %d: %d", length, x.size, e)
			}
			if u, e := send.Begin(3, text(length), x.size); e != x.e || e != api.OK && !sameState(u, send.State{}) {
				t.Errorf("Begin of %d bytes by %d: %d", length, x.size, e)
			}
		}
	}
}

// P20.1: texts of any bytes, also such that are no runes, are cut by bytes.
func TestCutAnyBytes(t *testing.T) {
	for _, s := range []string{"\x00", "\xff\xfe\xfd", "a\x00b\x00", "äöü€𝄞", strings.Repeat("\x00", 100)} {
		for size := 1; size < 8; size++ {
			checkCut(t, s, size)
			l, _ := send.Cut(s, size)
			if strings.Join(l, "") != s {
				t.Errorf("%q by %d: %q", s, size, l)
			}
		}
	}
}

// P20.1: the bounds are the chapter's.
func TestBounds(t *testing.T) {
	if send.MaxPart != 4096 || send.MaxParts != 512 {
		t.Errorf("%d, %d", send.MaxPart, send.MaxParts)
	}
}

// call is one call of a state; fields that it hasn't are not asked.
type call struct {
	name          string
	num, at, most int
}

// answer is what a call answers; fields that it hasn't are zero.
type answer struct {
	state send.State
	left  []int
	parts []send.Part
	over  bool
	e     api.Errno
}

// ask calls the program.
func ask(s send.State, x call) answer {
	var a answer
	switch x.name {
	case "Left":
		a.left = send.Left(s)
	case "Next":
		a.parts = send.Next(s, x.most)
	case "Got":
		a.state, a.e = send.Got(s, x.num, x.at)
	case "Over":
		a.over = send.Over(s)
	}
	return a
}

// came is Came with just as many places as there are parts.
func came(s send.State) []bool {
	l := make([]bool, len(s.Parts))
	for at := range l {
		l[at] = at < len(s.Came) && s.Came[at]
	}
	return l
}

// got is Got as the chapter tells it.
func got(s send.State, x call) answer {
	if x.num != s.Num {
		return answer{state: s, e: api.ErrOld}
	}
	if x.at < 0 || x.at > len(s.Parts)-1 {
		return answer{state: s, e: api.ErrNone}
	}
	s.Came = came(s)
	s.Came[x.at] = true
	return answer{state: s}
}

// wanted is what the chapter says of a call.
func wanted(s send.State, x call) answer {
	if x.name == "Got" {
		return got(s, x)
	}
	var a answer
	for at, has := range came(s) {
		if has {
			continue
		}
		a.left = append(a.left, at)
		if x.most > len(a.parts) {
			a.parts = append(a.parts, send.Part{Num: s.Num, At: at, Of: len(s.Parts), Text: s.Parts[at]})
		}
	}
	switch x.name {
	case "Left":
		return answer{left: a.left}
	case "Next":
		return answer{parts: a.parts}
	}
	return answer{over: len(a.left) == 0}
}

// sameState tells whether two states are the same; no list and an empty one are.
func sameState(s, u send.State) bool {
	return s.Num == u.Num && slices.Equal(s.Parts, u.Parts) && slices.Equal(s.Came, u.Came)
}

// same tells whether two answers are the same.
func same(a, b answer) bool {
	return sameState(a.state, b.state) && slices.Equal(a.left, b.left) && slices.Equal(a.parts, b.parts) && a.over == b.over && a.e == b.e
}

// deep is a state by itself.
func deep(s send.State) send.State {
	s.Parts, s.Came = slices.Clone(s.Parts), slices.Clone(s.Came)
	return s
}

// spoil changes all that a state's lists hold, and the room behind them.
func spoil(s send.State) {
	for i, l := 0, s.Parts[:cap(s.Parts)]; i < len(l); i++ {
		l[i] += "spoilt"
	}
	for i, l := 0, s.Came[:cap(s.Came)]; i < len(l); i++ {
		l[i] = !l[i]
	}
}

// spoilAnswer changes all that an answer's lists hold, and the room behind them.
func spoilAnswer(a answer) {
	spoil(a.state)
	for i, l := 0, a.left[:cap(a.left)]; i < len(l); i++ {
		l[i] = -77
	}
	for i, l := 0, a.parts[:cap(a.parts)]; i < len(l); i++ {
		l[i] = send.Part{Num: -77, At: -77, Of: -77, Text: "spoilt"}
	}
}

// check holds a call against the chapter, and asks that neither the state that is handed in nor what is answered changes with the other.
func check(t *testing.T, s send.State, x call) answer {
	t.Helper()
	was := deep(s)
	want := wanted(deep(s), x)
	first := ask(s, x)
	if !same(first, want) {
		t.Fatalf("%+v of %+v: %+v, not %+v", x, was, first, want)
	}
	spoilAnswer(first)
	if !sameState(s, was) {
		t.Fatalf("%+v changed %+v into %+v", x, was, s)
	}
	handed := deep(s)
	second := ask(handed, x)
	spoil(handed)
	if !same(second, want) {
		t.Fatalf("%+v of %+v: the answer changed with the state: %+v", x, was, second)
	}
	return second
}

// far are numbers below, at and above nought, and far from it.
func far(more ...int) []int {
	return append([]int{math.MinInt, math.MinInt + 1, -2, -1, 0, 1, 2, math.MaxInt - 1, math.MaxInt}, more...)
}

// someState is any state: Came may have fewer and more places than there are parts.
func someState(r *rand.Rand) send.State {
	s := send.State{Num: far(7)[r.Intn(10)]}
	for range r.Intn(7) {
		s.Parts = append(s.Parts, []string{"", "a", "bc", "\xff\x00", text(5000)}[r.Intn(5)])
	}
	length := len(s.Parts)
	if r.Intn(2) == 0 {
		length = r.Intn(9)
	}
	all := r.Intn(3) == 0
	for range length {
		s.Came = append(s.Came, all || r.Intn(2) == 0)
	}
	return s
}

// P20.1, P20.2: each call of any state; each answer there is comes up.
func TestAnyState(t *testing.T) {
	seen := map[string]int{}
	r := rand.New(rand.NewSource(1))
	for range 20000 {
		s := someState(r)
		length, left := len(s.Parts), len(send.Left(s))
		x := call{num: s.Num, at: r.Intn(length + 1)}
		if r.Intn(4) == 0 {
			x.num = far()[r.Intn(9)]
		}
		if r.Intn(4) == 0 {
			x.at = far(length-1, length, length+1)[r.Intn(12)]
		}
		x.most = far(left-1, left, left+1)[r.Intn(12)]
		for _, x.name = range []string{"Left", "Next", "Got", "Over"} {
			a := check(t, s, x)
			seen[fmt.Sprint(x.name, " ", a.over, " ", len(a.left) > 0, " ", len(a.parts) > 0, " ", int(a.e))]++
		}
	}
	for _, k := range []string{
		"Left false false false 0", "Left false true false 0", "Next false false false 0", "Next false false true 0",
		"Got false false false 0", "Got false false false 14", "Got false false false 8", "Over false false false 0", "Over true false false 0",
	} {
		if seen[k] < 100 {
			t.Errorf("%s came up %d times", k, seen[k])
		}
	}
}

// everyCame are all lists of at most so many places.
func everyCame(most int) [][]bool {
	l := [][]bool{nil}
	for from, length := 0, 1; length <= most; length++ {
		to := len(l)
		for _, c := range l[from:to] {
			l = append(l, append(slices.Clone(c), false), append(slices.Clone(c), true))
		}
		from = to
	}
	return l
}

// P20.1, P20.2: each call of every state of at most four parts, with at most six places in Came.
func TestEveryState(t *testing.T) {
	for _, came := range everyCame(6) {
		for length := range 5 {
			s := send.State{Num: 7, Parts: []string{"ab", "", "cd", "e"}[:length], Came: came}
			check(t, s, call{name: "Left"})
			check(t, s, call{name: "Over"})
			for _, most := range far(3, 4, 5) {
				check(t, s, call{name: "Next", most: most})
			}
			for _, at := range far(3, 4, 5, 6) {
				for _, num := range far(6, 7, 8) {
					check(t, s, call{name: "Got", num: num, at: at})
				}
			}
		}
	}
}

// P20.1: what the zero State, and one without parts, says.
func TestNoParts(t *testing.T) {
	for _, s := range []send.State{{}, {Num: 7}, {Parts: []string{}, Came: []bool{}}, {Came: []bool{false, true}}} {
		if len(send.Left(s)) != 0 || len(send.Next(s, 5)) != 0 || !send.Over(s) {
			t.Errorf("%+v: %v, %v, %v", s, send.Left(s), send.Next(s, 5), send.Over(s))
		}
		if u, e := send.Got(s, s.Num, 0); e != api.ErrNone || !sameState(u, s) {
			t.Errorf("%+v, Got: %+v, %d", s, u, e)
		}
	}
}

// P20.1: Came that is too short counts as false where it is wanting, and isn't looked at beyond the parts.
func TestCameOfAnotherLength(t *testing.T) {
	short := send.State{Num: 7, Parts: []string{"a", "b", "c"}, Came: []bool{true}}
	if !slices.Equal(send.Left(short), []int{1, 2}) || send.Over(short) {
		t.Errorf("short: %v", send.Left(short))
	}
	u, e := send.Got(short, 7, 2)
	if e != api.OK || !slices.Equal(u.Came, []bool{true, false, true}) || !slices.Equal(u.Parts, short.Parts) || u.Num != 7 {
		t.Errorf("short, Got: %+v, %d", u, e)
	}
	long := send.State{Num: 7, Parts: []string{"a", "b"}, Came: []bool{true, false, false, true}}
	if !slices.Equal(send.Left(long), []int{1}) || send.Over(long) {
		t.Errorf("long: %v", send.Left(long))
	}
	u, e = send.Got(long, 7, 1)
	if e != api.OK || !send.Over(u) || len(send.Left(u)) != 0 {
		t.Errorf("long, Got: %+v, %d", u, e)
	}
	for _, at := range []int{2, 3} {
		if u, e := send.Got(long, 7, at); e != api.ErrNone || !sameState(u, long) {
			t.Errorf("long, Got at %d: %+v, %d", at, u, e)
		}
	}
}

// P20.1: Got of another number is ErrOld, also where there is no such part; beside an error the state is as it was.
func TestGotErrors(t *testing.T) {
	s, _ := send.Begin(7, "abcde", 2)
	s, _ = send.Got(s, 7, 0)
	rows := []struct {
		num, at int
		e       api.Errno
	}{
		{6, 1, api.ErrOld}, {8, 0, api.ErrOld}, {8, -1, api.ErrOld}, {8, 3, api.ErrOld}, {-7, 1, api.ErrOld}, {math.MinInt, math.MaxInt, api.ErrOld},
		{7, -1, api.ErrNone}, {7, 3, api.ErrNone}, {7, math.MinInt, api.ErrNone}, {7, math.MaxInt, api.ErrNone},
		{7, 0, api.OK}, {7, 1, api.OK}, {7, 2, api.OK},
	}
	for _, x := range rows {
		u, e := send.Got(s, x.num, x.at)
		if e != x.e {
			t.Errorf("%+v: %d", x, e)
		}
		// Part 0 is known already.
		if asItWas := e != api.OK || x.at == 0; asItWas != sameState(u, s) {
			t.Errorf("%+v: %+v", x, u)
		}
	}
}

// P20.1: parts are known one by one, in many orders, until it is over; Next tells them as they are cut.
func TestUntilOver(t *testing.T) {
	for seed := range int64(200) {
		r := rand.New(rand.NewSource(seed))
		size := 1 + r.Intn(9)
		whole := text(r.Intn(60))
		cuts, _ := send.Cut(whole, size)
		s, _ := send.Begin(int(seed), whole, size)
		for step, at := range r.Perm(len(cuts)) {
			if send.Over(s) || len(send.Left(s)) != len(cuts)-step {
				t.Fatalf("%d bytes by %d: %v left behind %d", len(whole), size, send.Left(s), step)
			}
			for _, p := range send.Next(s, len(cuts)) {
				if p != (send.Part{Num: int(seed), At: p.At, Of: len(cuts), Text: cuts[p.At]}) {
					t.Fatalf("%d bytes by %d: %+v", len(whole), size, p)
				}
			}
			for range 1 + r.Intn(2) {
				s = check(t, s, call{name: "Got", num: int(seed), at: at}).state
			}
		}
		if !send.Over(s) || len(send.Left(s)) != 0 || len(send.Next(s, 9)) != 0 {
			t.Fatalf("%d bytes by %d: not over: %v", len(whole), size, send.Left(s))
		}
	}
}

// P20.1: a text of as many and as great parts as there may be.
func TestGreatest(t *testing.T) {
	whole := text(4096 * 512)
	s, e := send.Begin(1, whole, 4096)
	if e != api.OK || len(s.Parts) != 512 || len(s.Came) != 512 {
		t.Fatalf("Begin: %d parts, %d", len(s.Parts), e)
	}
	s, e = send.Got(s, 1, 511)
	l := send.Next(s, math.MaxInt)
	if e != api.OK || len(l) != 511 || l[510] != (send.Part{Num: 1, At: 510, Of: 512, Text: whole[510*4096 : 511*4096]}) {
		t.Errorf("Next: %d parts, %d", len(l), e)
	}
	if _, e := send.Got(s, 1, 512); e != api.ErrNone {
		t.Errorf("Got at 512: %d", e)
	}
}

// The chapter's example.
func TestExample(t *testing.T) {
	if l, e := send.Cut("abcde", 2); e != api.OK || !slices.Equal(l, []string{"ab", "cd", "e"}) {
		t.Errorf("Cut: %v, %d", l, e)
	}
	s, e := send.Begin(7, "abcde", 2)
	if e != api.OK {
		t.Errorf("Begin: %d", e)
	}
	s, e = send.Got(s, 7, 1)
	want := []send.Part{{Num: 7, At: 0, Of: 3, Text: "ab"}, {Num: 7, At: 2, Of: 3, Text: "e"}}
	if l := send.Next(s, 5); e != api.OK || !slices.Equal(l, want) {
		t.Errorf("Next: %v, %d", l, e)
	}
}
