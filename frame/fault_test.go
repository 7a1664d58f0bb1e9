package frame_test

import (
	"errors"
	"fmt"
	"math"
	"testing"

	"tiller/api"
	"tiller/frame"
)

// around is an error around another one.
type around struct{ err error }

func (a around) Error() string { return "around" }
func (a around) Unwrap() error { return a.err }

// pair is an error around two others.
type pair struct{ a, b error }

func (p pair) Error() string   { return "pair" }
func (p pair) Unwrap() []error { return []error{p.a, p.b} }

// list is an error that can't be held against another one by ==.
type list []error

func (l list) Error() string { return "list" }

// poses is an error that says by its own methods what it is.
type poses struct{}

func (poses) Error() string        { return "poses" }
func (poses) Is(target error) bool { return target == error(api.ErrLate) }
func (poses) As(target any) bool {
	switch x := target.(type) {
	case *api.Errno:
		*x = api.ErrLate
		return true
	case *frame.Fault:
		*x = frame.Fault{Place: 5, Why: api.ErrLate}
		return true
	}
	return false
}

// breaks is an error whose method panics.
type breaks struct{}

func (breaks) Error() string { return "breaks" }
func (breaks) Unwrap() error { panic("breaks") }

// numbers are all errors' numbers, and some that there aren't.
func numbers() []api.Errno {
	l := []api.Errno{math.MinInt, -1, 18, 1000, math.MaxInt}
	for e := api.OK; e <= api.ErrDown; e++ {
		l = append(l, e)
	}
	return l
}

// P14.3: Error and Unwrap of a Fault for each number.
func TestFault(t *testing.T) {
	for _, why := range numbers() {
		for _, place := range []int{math.MinInt, -1, 0, 7, math.MaxInt} {
			f := frame.Fault{Place: place, Why: why}
			if f.Error() != "frame: "+why.Error() {
				t.Errorf("Error of %d: %q", why, f.Error())
			}
			if f.Unwrap() != error(why) {
				t.Errorf("Unwrap of %d: %v", why, f.Unwrap())
			}
		}
	}
	if s := (frame.Fault{Place: 3, Why: api.ErrSum}).Error(); s != "frame: sum" {
		t.Errorf("Error: %q", s)
	}
	if s := (frame.Fault{Why: 18}).Error(); s != "frame: unknown" {
		t.Errorf("Error: %q", s)
	}
}

// wraps are an error, and it wrapped once and more often, in many ways.
func wraps(e error) []error {
	deep := e
	for range 50 {
		deep = around{deep}
	}
	return []error{
		e, around{e}, &around{e}, around{around{e}}, deep, fmt.Errorf("told: %w", e), fmt.Errorf("told: %w", around{e}),
		errors.Join(e), errors.Join(nil, e), errors.Join(errors.ErrUnsupported, e), pair{errors.ErrUnsupported, around{e}}, pair{nil, e},
	}
}

// finds holds Why, Place and Is of an error against what is wanted; Is is asked of every number.
func finds(t *testing.T, e error, why api.Errno, place int) {
	t.Helper()
	if frame.Why(e) != why || frame.Place(e) != place {
		t.Errorf("%#v: %v at %d, not %v at %d", e, frame.Why(e), frame.Place(e), why, place)
	}
	for _, n := range numbers() {
		if frame.Is(e, n) != errors.Is(e, n) {
			t.Errorf("Is(%#v, %d): %t", e, n, frame.Is(e, n))
		}
	}
}

// only holds that an error is one number, and no other.
func only(t *testing.T, e error, why api.Errno) {
	t.Helper()
	for _, n := range numbers() {
		if frame.Is(e, n) != (n == why) {
			t.Errorf("Is(%#v, %d): %t", e, n, frame.Is(e, n))
		}
	}
}

// P14.3: through a Fault, however it is wrapped; and a number alone, which has no place.
func TestWrapped(t *testing.T) {
	for _, why := range numbers() {
		for _, place := range []int{math.MinInt, -2, -1, 0, 1, 60010, math.MaxInt} {
			for _, e := range wraps(frame.Fault{Place: place, Why: why}) {
				finds(t, e, why, place)
				only(t, e, why)
			}
		}
		for _, e := range wraps(why) {
			finds(t, e, why, -1)
			only(t, e, why)
		}
	}
}

// P14.3: what Pack and Unpack answer, wrapped.
func TestWrappedAnswers(t *testing.T) {
	_, e := frame.Unpack("T\x02" + framed("a")[2:])
	for _, w := range wraps(e) {
		finds(t, w, api.ErrOld, 1)
		only(t, w, api.ErrOld)
	}
	_, e = frame.Pack(string(make([]byte, 60001)))
	for _, w := range wraps(e) {
		finds(t, w, api.ErrBig, 60000)
		only(t, w, api.ErrBig)
	}
}

// P14.3: no error, and errors that hold none.
func TestNone(t *testing.T) {
	finds(t, nil, api.OK, -1)
	_, none := frame.Pack("a")
	finds(t, none, api.OK, -1)
	for _, n := range numbers() {
		if frame.Is(nil, n) {
			t.Errorf("Is(nil, %d)", n)
		}
	}
	for _, other := range []error{errors.ErrUnsupported, errors.New("sum"), around{nil}, errors.New("frame: sum"), list{api.ErrSum}, pair{}, pair{nil, around{}}, fmt.Errorf("told: %v", api.ErrSum)} {
		for _, e := range wraps(other) {
			finds(t, e, api.ErrArg, -1)
			only(t, e, -7)
		}
	}
}

// P14.3: of several the first is found; a pointer to a Fault isn't one, but what is in it is found.
func TestSeveral(t *testing.T) {
	sum, end := frame.Fault{Place: 3, Why: api.ErrSum}, frame.Fault{Place: 4, Why: api.ErrEnd}
	finds(t, errors.Join(sum, end), api.ErrSum, 3)
	finds(t, errors.Join(end, sum), api.ErrEnd, 4)
	finds(t, pair{api.ErrBusy, around{end}}, api.ErrBusy, 4)
	finds(t, pair{around{around{sum}}, end}, api.ErrSum, 3)
	finds(t, &sum, api.ErrSum, -1)
	finds(t, poses{}, api.ErrLate, 5)
	finds(t, around{poses{}}, api.ErrLate, 5)
	if e := errors.Join(sum, end); !frame.Is(e, api.ErrSum) || !frame.Is(e, api.ErrEnd) || frame.Is(e, api.ErrBig) {
		t.Error("Is of two")
	}
}

// P14.3, P1: an error whose method panics holds nothing that could be found; no call panics.
func TestBreaks(t *testing.T) {
	for _, e := range wraps(breaks{}) {
		if frame.Why(e) != api.ErrArg || frame.Place(e) != -1 || frame.Is(e, api.ErrSum) || frame.Is(e, api.OK) {
			t.Errorf("%#v: %v at %d", e, frame.Why(e), frame.Place(e))
		}
	}
}
