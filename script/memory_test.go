package script_test

import (
	"reflect"
	"slices"
	"testing"

	"tiller/api"
	"tiller/fleet"
	"tiller/script"
)

// wipe makes another row of a row, and of the room behind it.
func wipe(row []int) {
	row = row[:cap(row)]
	for i := range row {
		row[i] = 5
	}
}

// wipeAll makes others of all lists of a trace, and of the room behind them.
func wipeAll(x script.Trace) {
	for _, a := range x.Asked {
		wipe(a.Prompt)
	}
	for _, b := range x.Ended {
		wipe(b.Tokens)
	}
	clear(x.Errors[:cap(x.Errors)])
	clear(x.Asked[:cap(x.Asked)])
	clear(x.Ended[:cap(x.Ended)])
}

// rows is a script of requests whose prompts lie in one row, behind and over one another, and the row.
func rows() ([]script.Event, []int) {
	row := []int{1, 4, 2, 6, 3, 2, 77, 77}
	l := []script.Event{submit(6, row[:3]...), submit(6, row[:3]...), submit(6, row[1:4]...), submit(6, row[2:6]...), submit(6, row[6:]...)}
	for range 12 {
		l = append(l, of(script.Calm, 1))
	}
	l = append(l, of(script.Calm, 100))
	return append(l, of(99, 0))[:len(l)], row
}

// K3: what is handed in to Play isn't changed, nor the room behind it.
func TestHandedIn(t *testing.T) {
	l, row := rows()
	other, _ := rows()
	x := played(t, fleet.Plain(small(), 7), l...)
	if !slices.Equal(row, []int{1, 4, 2, 6, 3, 2, 77, 77}) || !reflect.DeepEqual(l[:len(l)+1], other[:len(other)+1]) {
		t.Errorf("the script is %v, %v", row, l)
	}
	if len(x.Asked) != 4 || len(x.Ended) != 4 {
		t.Fatalf("%s", text(x))
	}
	was := copied(x)
	wipe(row)
	for i := range l {
		l[i] = script.Event{}
	}
	if !same(x, was) {
		t.Errorf("the script was changed later on: %s, it was %s", text(x), text(was))
	}
}

// K3: answers of Play share no memory: neither with one another, nor with the script, nor with those of another call.
func TestAnswersApart(t *testing.T) {
	l, row := rows()
	s := fleet.Plain(small(), 7)
	x, y := played(t, s, l...), played(t, s, l...)
	was := copied(y)
	for i := range x.Asked {
		z := copied(x)
		wipe(x.Asked[i].Prompt)
		z.Asked[i].Prompt = slices.Repeat([]int{5}, len(z.Asked[i].Prompt))
		if !same(x, z) {
			t.Fatalf("prompt %d: %s, not %s", i, text(x), text(z))
		}
	}
	for i := range x.Ended {
		z := copied(x)
		wipe(x.Ended[i].Tokens)
		z.Ended[i].Tokens = slices.Repeat([]int{5}, len(z.Ended[i].Tokens))
		if !same(x, z) {
			t.Fatalf("tokens %d: %s, not %s", i, text(x), text(z))
		}
	}
	wipeAll(x)
	if !same(y, was) || !slices.Equal(row, []int{1, 4, 2, 6, 3, 2, 77, 77}) {
		t.Errorf("another answer was changed: %s, it was %s, the row %v", text(y), text(was), row)
	}
	if z := played(t, s, l...); !same(z, was) {
		t.Errorf("the next answer: %s, not %s", text(z), text(was))
	}
}

// spare is a list with room behind it, in which something stands.
func spare[T any](l []T, behind T) []T {
	return append(slices.Clone(l), behind, behind, behind)[:len(l)]
}

// K3: Judge changes nothing of a trace, nor the room behind its lists, and keeps none of it.
func TestJudgedTrace(t *testing.T) {
	k := newCourt(t)
	for _, end := range []int{1, 2, 3} {
		x := k.trace()
		x.Ended[1].End = end
		for i := range x.Asked {
			x.Asked[i].Prompt = spare(x.Asked[i].Prompt, 77)
		}
		for i := range x.Ended {
			x.Ended[i].Tokens = spare(x.Ended[i].Tokens, 77)
		}
		x.Asked, x.Ended, x.Errors = spare(x.Asked, script.Asked{Event: 77}), spare(x.Ended, script.Ended{Event: 77}), spare(x.Errors, api.ErrSum)
		whole := func() []script.Trace {
			y := script.Trace{Errors: x.Errors[:len(x.Errors)+3], Asked: slices.Clone(x.Asked[:len(x.Asked)+3]), Ended: slices.Clone(x.Ended[:len(x.Ended)+3]), Open: x.Open}
			for i := range x.Asked {
				y.Asked[i].Prompt = x.Asked[i].Prompt[:len(x.Asked[i].Prompt)+3]
			}
			for i := range x.Ended {
				y.Ended[i].Tokens = x.Ended[i].Tokens[:len(x.Ended[i].Tokens)+3]
			}
			return []script.Trace{copied(y)}
		}
		was := whole()
		at, e := script.Judge(k.c, k.seed, x)
		if now := whole(); !reflect.DeepEqual(now, was) {
			t.Errorf("Judge changed %v into %v", was, now)
		}
		wipeAll(x)
		y := k.trace()
		y.Ended[1].End = end
		if nextAt, next := script.Judge(k.c, k.seed, y); nextAt != at || next != e {
			t.Errorf("Judge again: %d, %d, not %d, %d", nextAt, next, at, e)
		}
	}
}
