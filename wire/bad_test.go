package wire_test

import (
	"errors"
	"fmt"
	"math"
	"testing"

	"tiller/api"
	"tiller/frame"
	"tiller/wire"
)

// around is an error around another one.
type around struct{ err error }

func (a around) Error() string { return "around" }
func (a around) Unwrap() error { return a.err }

// pair is an error around two others.
type pair struct{ a, b error }

func (p pair) Error() string   { return "pair" }
func (p pair) Unwrap() []error { return []error{p.a, p.b} }

// poses is an error that says by its own method that it is a Bad.
type poses struct{}

func (poses) Error() string { return "poses" }
func (poses) As(target any) bool {
	x, ok := target.(*wire.Bad)
	if ok {
		*x = wire.Bad{Part: 7, Err: api.ErrLate}
	}
	return ok
}

// breaks is an error whose methods panic.
type breaks struct{}

func (breaks) Error() string { panic("breaks") }
func (breaks) Unwrap() error { panic("breaks") }

// breaksLate is an error that says what it is, and panics then.
type breaksLate struct{}

func (breaksLate) Error() string { return "late" }
func (breaksLate) As(target any) bool {
	poses{}.As(target)
	panic("late")
}

// numbers are all errors' numbers, and some that there aren't.
func numbers() []api.Errno {
	l := []api.Errno{math.MinInt, -1, 18, math.MaxInt}
	for e := api.OK; e <= api.ErrDown; e++ {
		l = append(l, e)
	}
	return l
}

// wraps are an error, and it wrapped once and more often, in many ways.
func wraps(e error) []error {
	deep := e
	for range 50 {
		deep = around{deep}
	}
	return []error{
		e, around{e}, &around{e}, around{around{e}}, deep, fmt.Errorf("told: %w", e), fmt.Errorf("told: %w", around{e}),
		errors.Join(e), errors.Join(nil, e), errors.Join(errors.ErrUnsupported, e), pair{errors.ErrUnsupported, around{e}}, pair{nil, e},
	}
}

// only holds that an error is one number, and no other.
func only(t *testing.T, e error, why api.Errno) {
	t.Helper()
	for _, n := range numbers() {
		if frame.Is(e, n) != (n == why) {
			t.Errorf("Is(%#v, %d): %t", e, n, frame.Is(e, n))
		}
	}
}

// P15.2: Error and Unwrap of a Bad.
func TestBad(t *testing.T) {
	for _, part := range []int{math.MinInt, -1, 0, 1, 13, math.MaxInt} {
		for _, why := range numbers() {
			for _, within := range []error{why, frame.Fault{Place: 3, Why: why}, around{why}, wire.Bad{Part: 2, Err: why}, errors.New("text")} {
				b := wire.Bad{Part: part, Err: within}
				if b.Error() != "message: "+within.Error() || b.Unwrap() != within {
					t.Errorf("%#v: %q, %v", b, b.Error(), b.Unwrap())
				}
			}
		}
	}
	for text, b := range map[string]wire.Bad{
		"message: kind":            {Part: 1, Err: api.ErrKind},
		"message: frame: end":      {Part: 0, Err: frame.Fault{Place: 0, Why: api.ErrEnd}},
		"message: message: sum":    {Part: 0, Err: wire.Bad{Part: 3, Err: api.ErrSum}},
		"message: unknown":         {Part: 3, Err: api.Errno(18)},
		"message: frame: argument": {Part: 3, Err: frame.Fault{Why: 1}},
	} {
		if b.Error() != text {
			t.Errorf("Error: %q, not %q", b.Error(), text)
		}
	}
}

// P15.2, P1: a Bad around nothing, and around an error whose methods panic.
func TestBadAroundNothing(t *testing.T) {
	for _, part := range []int{0, 5} {
		for _, within := range []error{nil, breaks{}, (*around)(nil)} {
			b := wire.Bad{Part: part, Err: within}
			_ = b.Error()
			if b.Unwrap() != within || wire.Part(b) != part || wire.Part(around{b}) != part {
				t.Errorf("%d: part %d", part, wire.Part(b))
			}
		}
		b := wire.Bad{Part: part}
		if b.Error() != "message: " || frame.Why(b) != api.ErrArg {
			t.Errorf("%q, %v", b.Error(), frame.Why(b))
		}
	}
}

// P15.2: the part and the number of a Bad, however it is wrapped.
func TestPartWrapped(t *testing.T) {
	for _, part := range []int{math.MinInt, -2, -1, 0, 1, 2, 3, 4, 5, 6, 7, 8, 9, 10, 11, 12, 13, 14, math.MaxInt} {
		for _, why := range numbers() {
			for _, e := range wraps(wire.Bad{Part: part, Err: why}) {
				if wire.Part(e) != part || frame.Why(e) != why || frame.Place(e) != -1 {
					t.Errorf("%#v: part %d, %v at %d", e, wire.Part(e), frame.Why(e), frame.Place(e))
				}
				only(t, e, why)
			}
			for _, e := range wraps(wire.Bad{Part: part, Err: frame.Fault{Place: 6, Why: why}}) {
				if wire.Part(e) != part || frame.Why(e) != why || frame.Place(e) != 6 {
					t.Errorf("%#v: part %d, %v at %d", e, wire.Part(e), frame.Why(e), frame.Place(e))
				}
				only(t, e, why)
			}
		}
	}
}

// P15.2: what Check, Write and Read answer, wrapped.
func TestPartOfAnswers(t *testing.T) {
	m := plain()
	m.Try = -1
	_, written := wire.Write(m)
	_, ended := wire.Read("T\x01")
	_, behind := wire.Read(framed(bodyOf(plain()) + "x"))
	for _, c := range []struct {
		e           error
		part, place int
		why         api.Errno
		text        string
	}{
		{wire.Check(wire.Msg{}), 1, -1, api.ErrKind, "message: kind"},
		{written, 6, -1, api.ErrArg, "message: argument"},
		{ended, 0, 2, api.ErrEnd, "message: frame: end"},
		{behind, 13, -1, api.ErrLen, "message: lengths"},
	} {
		if c.e.Error() != c.text {
			t.Errorf("Error: %q, not %q", c.e.Error(), c.text)
		}
		for _, e := range wraps(c.e) {
			if wire.Part(e) != c.part || frame.Why(e) != c.why || frame.Place(e) != c.place {
				t.Errorf("%#v: part %d, %v at %d", e, wire.Part(e), frame.Why(e), frame.Place(e))
			}
			only(t, e, c.why)
		}
	}
}

// P15.2: no error, and errors that hold no Bad.
func TestPartNone(t *testing.T) {
	_, none := wire.Write(plain())
	for _, e := range []error{nil, none, wire.Check(plain())} {
		if e != nil || wire.Part(e) != -1 || frame.Why(e) != api.OK {
			t.Errorf("no error: %v, part %d, %v", e, wire.Part(e), frame.Why(e))
		}
	}
	for _, other := range []error{api.ErrSum, api.OK, frame.Fault{Place: 4, Why: api.ErrSum}, errors.New("message: sum"), around{nil}, pair{}, breaks{}, breaksLate{}} {
		for _, e := range wraps(other) {
			if wire.Part(e) != -1 {
				t.Errorf("part %d", wire.Part(e))
			}
		}
	}
}

// P15.2: of several the first is found; a pointer to a Bad isn't one, but what is in it is found.
func TestPartSeveral(t *testing.T) {
	kind, end := wire.Bad{Part: 1, Err: api.ErrKind}, wire.Bad{Part: 11, Err: api.ErrEnd}
	for _, c := range []struct {
		e    error
		part int
		why  api.Errno
	}{
		{errors.Join(kind, end), 1, api.ErrKind},
		{errors.Join(end, kind), 11, api.ErrEnd},
		{pair{api.ErrBusy, around{end}}, 11, api.ErrBusy},
		{pair{around{around{kind}}, end}, 1, api.ErrKind},
		{wire.Bad{Part: 4, Err: end}, 4, api.ErrEnd},
		{wire.Bad{Part: 4, Err: errors.Join(kind, end)}, 4, api.ErrKind},
		{frame.Fault{Why: api.ErrSum}, -1, api.ErrSum},
		{&kind, -1, api.ErrKind},
		{&wire.Bad{Part: 4, Err: around{end}}, 11, api.ErrEnd},
		{around{poses{}}, 7, api.ErrArg},
	} {
		if wire.Part(c.e) != c.part || frame.Why(c.e) != c.why {
			t.Errorf("%#v: part %d, %v", c.e, wire.Part(c.e), frame.Why(c.e))
		}
	}
}
