package lease_test

import (
	"maps"
	"math"
	"math/rand"
	"testing"

	"tiller/api"
	"tiller/lease"
)

// call is one call of a state; fields that it hasn't are not asked.
type call struct {
	name                            string
	now, term, place, holder, epoch int
}

// answer is what a call answers; fields that it hasn't are zero.
type answer struct {
	state lease.State
	num   int
	had   lease.Holding
	ok    bool
	e     api.Errno
}

// ask calls the program.
func ask(s lease.State, x call) answer {
	var a answer
	switch x.name {
	case "Grant":
		a.state, a.num, a.e = lease.Grant(s, x.now, x.term, x.place, x.holder)
	case "Let":
		a.state, a.e = lease.Let(s, x.now, x.place, x.holder, x.epoch)
	case "Who":
		a.had, a.ok = lease.Who(s, x.now, x.place)
	case "Restart":
		a.state = lease.Restart(s, x.now, x.term)
	case "Count":
		a.num = lease.Count(s, x.now)
	}
	return a
}

// had are the Holdings that aren't over.
func had(s lease.State, now int) map[int]lease.Holding {
	l := map[int]lease.Holding{}
	for place, h := range s.Holdings {
		if h.Until > now {
			l[place] = h
		}
	}
	return l
}

// granted is Grant as the chapter tells it.
func granted(s lease.State, x call) answer {
	l := had(s, x.now)
	h, taken := l[x.place]
	a := answer{state: s}
	switch {
	case x.term < 1, x.term > 1048576, x.now < 0, x.now > 1099511627776, x.holder < 0:
		a.e = api.ErrArg
	case x.now < s.Quiet:
		a.e = api.ErrLate
	case taken && h.Holder != x.holder:
		a.e = api.ErrBusy
	case s.Epoch >= 1099511627776:
		a.e = api.ErrBig
	default:
		l[x.place] = lease.Holding{Holder: x.holder, Epoch: s.Epoch + 1, Until: x.now + x.term}
		a.state = lease.State{Epoch: s.Epoch + 1, Quiet: s.Quiet, Holdings: l}
		a.num = s.Epoch + 1
	}
	return a
}

// let is Let as the chapter tells it.
func let(s lease.State, x call) answer {
	l := had(s, x.now)
	h, taken := l[x.place]
	if !taken {
		return answer{state: s, e: api.ErrNone}
	}
	if h.Holder != x.holder || h.Epoch != x.epoch {
		return answer{state: s, e: api.ErrOld}
	}
	delete(l, x.place)
	return answer{state: lease.State{Epoch: s.Epoch, Quiet: s.Quiet, Holdings: l}}
}

// brought is n, brought to 0 to most.
func brought(n, most int) int {
	if n < 0 {
		return 0
	}
	if n > most {
		return most
	}
	return n
}

// wanted is what the chapter says of a call.
func wanted(s lease.State, x call) answer {
	switch x.name {
	case "Grant":
		return granted(s, x)
	case "Let":
		return let(s, x)
	case "Who":
		h, ok := had(s, x.now)[x.place]
		return answer{had: h, ok: ok}
	case "Restart":
		return answer{state: lease.State{Epoch: s.Epoch, Quiet: brought(x.now, 1099511627776) + brought(x.term, 1048576)}}
	}
	return answer{num: len(had(s, x.now))}
}

// sameState tells whether two states are the same; no map and an empty one are.
func sameState(s, u lease.State) bool {
	return s.Epoch == u.Epoch && s.Quiet == u.Quiet && maps.Equal(s.Holdings, u.Holdings)
}

// same tells whether two answers are the same.
func same(a, b answer) bool {
	return sameState(a.state, b.state) && a.num == b.num && a.had == b.had && a.ok == b.ok && a.e == b.e
}

// deep is a state by itself.
func deep(s lease.State) lease.State {
	s.Holdings = maps.Clone(s.Holdings)
	return s
}

// spoil changes all that a state's map holds.
func spoil(s lease.State) {
	if s.Holdings == nil {
		return
	}
	for place := range s.Holdings {
		s.Holdings[place] = lease.Holding{Holder: -77, Epoch: -77, Until: -77}
	}
	s.Holdings[-77] = lease.Holding{Holder: 77, Epoch: 77, Until: 77}
}

// check holds a call against the chapter, and asks that neither the state that is handed in nor what is answered changes with the other.
func check(t *testing.T, s lease.State, x call) answer {
	t.Helper()
	was := deep(s)
	want := wanted(deep(s), x)
	first := ask(s, x)
	if !same(first, want) {
		t.Fatalf("%+v of %+v: %+v, not %+v", x, was, first, want)
	}
	spoil(first.state)
	if !sameState(s, was) {
		t.Fatalf("%+v changed %+v into %+v", x, was, s)
	}
	handed := deep(s)
	second := ask(handed, x)
	spoil(handed)
	if !same(second, want) {
		t.Fatalf("%+v of %+v: the answer changed with the state: %+v", x, was, second)
	}
	return second
}

// edges are numbers at, below and above each bound, and far from them.
func edges() []int {
	return []int{
		math.MinInt, math.MinInt + 1, -1 << 40, -1, 0, 1, 2, 5,
		1<<20 - 1, 1 << 20, 1<<20 + 1, 1<<40 - 1<<20, 1<<40 - 1, 1 << 40, 1<<40 + 1, 1<<40 + 1<<20,
		math.MaxInt - 1, math.MaxInt,
	}
}

// near is a number at, below or above another one, which doesn't wrap round.
func near(r *rand.Rand, n int) int {
	d := r.Intn(3) - 1
	if d < 0 && n == math.MinInt || d > 0 && n == math.MaxInt {
		return n
	}
	return n + d
}

// pick is one of some numbers.
func pick(r *rand.Rand, l ...int) int {
	return l[r.Intn(len(l))]
}

// someState is any state, of moments about now among others.
func someState(r *rand.Rand, now int) lease.State {
	s := lease.State{Epoch: pick(r, edges()...), Quiet: pick(r, edges()...)}
	if r.Intn(2) == 0 {
		s.Quiet = near(r, now)
	}
	if r.Intn(8) == 0 {
		return s
	}
	s.Holdings = map[int]lease.Holding{}
	for range r.Intn(6) {
		until := near(r, now)
		if r.Intn(3) == 0 {
			until = pick(r, edges()...)
		}
		s.Holdings[pick(r, math.MinInt, -1, 0, 1, 2, math.MaxInt)] = lease.Holding{Holder: pick(r, -1, 0, 1, 7, math.MaxInt), Epoch: pick(r, -1, 0, 1, 2, math.MaxInt), Until: until}
	}
	return s
}

// someCall is any call.
func someCall(r *rand.Rand, name string, now int) call {
	x := call{name: name, now: now, term: pick(r, edges()...), place: pick(r, math.MinInt, -1, 0, 1, 2, math.MaxInt), holder: pick(r, -1, 0, 1, 7, math.MaxInt), epoch: pick(r, -1, 0, 1, 2, math.MaxInt)}
	if r.Intn(3) > 0 {
		x.term = 1 + r.Intn(1<<20)
	}
	return x
}

// P18.1, P18.3: each call of any state; each answer there is comes up.
func TestAnyState(t *testing.T) {
	type kind struct {
		name string
		ok   bool
		e    api.Errno
	}
	seen := map[kind]int{}
	r := rand.New(rand.NewSource(1))
	for range 60000 {
		now := pick(r, edges()...)
		if r.Intn(2) == 0 {
			now = 1 + r.Intn(100)
		}
		for _, name := range []string{"Grant", "Let", "Who", "Restart", "Count"} {
			a := check(t, someState(r, now), someCall(r, name, now))
			seen[kind{name, a.ok, a.e}]++
		}
	}
	for _, k := range []kind{
		{"Grant", false, api.OK}, {"Grant", false, api.ErrArg}, {"Grant", false, api.ErrLate}, {"Grant", false, api.ErrBusy}, {"Grant", false, api.ErrBig},
		{"Let", false, api.OK}, {"Let", false, api.ErrNone}, {"Let", false, api.ErrOld},
		{"Who", true, api.OK}, {"Who", false, api.OK}, {"Restart", false, api.OK}, {"Count", false, api.OK},
	} {
		if seen[k] < 100 {
			t.Errorf("%v came up %d times", k, seen[k])
		}
	}
}

// atPlace are states in which place 1 is had in every way about now, beside places that are over and that aren't.
func atPlace(now int) []lease.State {
	l := []lease.State{{}, {Holdings: map[int]lease.Holding{}}}
	for _, until := range []int{math.MinInt, now - 1, now, now + 1, math.MaxInt} {
		for _, holder := range []int{-1, 0, 7} {
			l = append(l, lease.State{Holdings: map[int]lease.Holding{
				0: {Holder: 7, Epoch: 3, Until: now}, 1: {Holder: holder, Epoch: 4, Until: until}, 2: {Holder: 8, Epoch: 5, Until: now + 1},
			}})
		}
	}
	return l
}

// P18.1, P18.3: Grant with every choice of its arguments and of what the state holds at, below and above the bounds.
func TestGrantBounds(t *testing.T) {
	for _, now := range []int{-1 << 41, -1, 0, 1, 50, 1<<40 - 1, 1 << 40, 1<<40 + 1, 1 << 62} {
		for _, s := range atPlace(now) {
			for _, term := range []int{math.MinInt, -1, 0, 1, 2, 1<<20 - 1, 1 << 20, 1<<20 + 1, math.MaxInt} {
				for _, epoch := range []int{math.MinInt, -1, 0, 9, 1<<40 - 1, 1 << 40, math.MaxInt} {
					for _, quiet := range []int{math.MinInt, now - 1, now, now + 1, math.MaxInt} {
						s.Epoch, s.Quiet = epoch, quiet
						for _, holder := range []int{math.MinInt, -1, 0, 7} {
							x := call{name: "Grant", now: now, term: term, place: 1, holder: holder}
							if got, want := ask(s, x), wanted(s, x); !same(got, want) {
								t.Fatalf("%+v of %+v: %+v, not %+v", x, s, got, want)
							}
						}
					}
				}
			}
		}
	}
}

// P18.1, P18.3: Let, Who, Count and Restart with every choice about the bounds; no moment is wrong for them.
func TestOtherBounds(t *testing.T) {
	for _, now := range []int{math.MinInt + 1, -1, 0, 1, 50, 1 << 40, 1<<40 + 1, math.MaxInt - 1} {
		for _, s := range atPlace(now) {
			s.Epoch, s.Quiet = 1<<40+5, math.MaxInt
			for _, place := range []int{math.MinInt, -1, 0, 1, 2, 3, math.MaxInt} {
				check(t, s, call{name: "Who", now: now, place: place})
				for _, holder := range []int{-1, 0, 7, 8} {
					for _, epoch := range []int{math.MinInt, 0, 3, 4, 5, 6} {
						check(t, s, call{name: "Let", now: now, place: place, holder: holder, epoch: epoch})
					}
				}
			}
			check(t, s, call{name: "Count", now: now})
			for _, term := range edges() {
				check(t, s, call{name: "Restart", now: now, term: term})
			}
		}
	}
	s := lease.State{Epoch: math.MinInt, Holdings: map[int]lease.Holding{1: {Holder: 1, Epoch: 1, Until: math.MaxInt}}}
	for _, now := range edges() {
		for _, term := range edges() {
			check(t, s, call{name: "Restart", now: now, term: term})
		}
		check(t, s, call{name: "Who", now: now, place: 1})
		check(t, s, call{name: "Count", now: now})
	}
}

// P18.1: of two and more errors the first that the chapter names, by their numbers.
func TestFirstError(t *testing.T) {
	busy := map[int]lease.Holding{1: {Holder: 8, Epoch: 1, Until: 100}}
	whole := lease.State{Epoch: 1 << 40, Quiet: 60, Holdings: busy}
	awake := lease.State{Epoch: 1 << 40, Quiet: 50, Holdings: busy}
	rows := []struct {
		s                 lease.State
		now, term, holder int
		e                 api.Errno
	}{
		{whole, 50, 0, 7, api.ErrArg},
		{whole, -1, 10, 7, api.ErrArg},
		{whole, 50, 10, -1, api.ErrArg},
		{whole, 50, 10, 7, api.ErrLate},
		{whole, 50, 10, 8, api.ErrLate},
		{awake, 50, 10, 7, api.ErrBusy},
		{awake, 99, 10, 7, api.ErrBusy},
		{awake, 100, 10, 7, api.ErrBig},
		{awake, 50, 10, 8, api.ErrBig},
		{lease.State{Epoch: 1<<40 - 1}, 1 << 40, 1 << 20, 0, api.OK},
	}
	for _, x := range rows {
		if _, n, e := lease.Grant(x.s, x.now, x.term, 1, x.holder); e != x.e || (n != 0) != (e == api.OK) {
			t.Errorf("%+v: %d, %d", x, n, e)
		}
	}
	for _, x := range []struct {
		holder, epoch int
		e             api.Errno
	}{{7, 1, api.ErrOld}, {8, 2, api.ErrOld}, {7, 2, api.ErrOld}, {8, 1, api.OK}} {
		if _, e := lease.Let(whole, 99, 1, x.holder, x.epoch); e != x.e {
			t.Errorf("Let, %+v: %d", x, e)
		}
		if _, e := lease.Let(whole, 100, 1, x.holder, x.epoch); e != api.ErrNone {
			t.Errorf("Let of what is over, %+v: %d", x, e)
		}
	}
}

// P18.1: beside an error the state is the one that was handed in, with what is over; behind a call without one, what is over is gone.
func TestWhatIsOver(t *testing.T) {
	old := map[int]lease.Holding{0: {Holder: 1, Epoch: 1, Until: 9}, 1: {Holder: 7, Epoch: 2, Until: 20}, 2: {Holder: 1, Epoch: 3, Until: 10}, 3: {Holder: 1, Epoch: 4, Until: 11}}
	s := lease.State{Epoch: 4, Quiet: 3, Holdings: old}
	for _, x := range []call{
		{name: "Grant", now: 10, term: 5, place: 1, holder: 8},
		{name: "Let", now: 10, place: 1, holder: 7, epoch: 1},
		{name: "Let", now: 10, place: 2, holder: 1, epoch: 3},
	} {
		if a := ask(s, x); a.e == api.OK || !sameState(a.state, s) {
			t.Errorf("%+v: %+v", x, a)
		}
	}
	u, n, e := lease.Grant(s, 10, 5, 2, 8)
	want := map[int]lease.Holding{1: old[1], 2: {Holder: 8, Epoch: 5, Until: 15}, 3: old[3]}
	if n != 5 || e != api.OK || !sameState(u, lease.State{Epoch: 5, Quiet: 3, Holdings: want}) {
		t.Errorf("Grant: %+v, %d, %d", u, n, e)
	}
	u, e = lease.Let(s, 10, 1, 7, 2)
	if e != api.OK || !sameState(u, lease.State{Epoch: 4, Quiet: 3, Holdings: map[int]lease.Holding{3: old[3]}}) {
		t.Errorf("Let: %+v, %d", u, e)
	}
}

// P18.1, P18.2, P18.3: every row of four calls from the zero State on, as the clock goes on and as it stands.
func TestEveryRow(t *testing.T) {
	var walk func(s lease.State, now, last, left int)
	walk = func(s lease.State, now, last, left int) {
		if left == 0 {
			return
		}
		for _, wait := range []int{0, 1, 2} {
			at := now + wait
			for place := range 2 {
				for holder := range 2 {
					a := check(t, s, call{name: "Grant", now: at, term: 2, place: place, holder: holder})
					if a.e == api.OK && (a.num <= last || at < s.Quiet) {
						t.Fatalf("epoch %d behind %d at %d, quiet till %d", a.num, last, at, s.Quiet)
					}
					walk(a.state, at, max(last, a.num), left-1)
				}
				h, _ := lease.Who(s, at, place)
				walk(check(t, s, call{name: "Let", now: at, place: place, holder: h.Holder, epoch: h.Epoch}).state, at, last, left-1)
			}
			walk(check(t, s, call{name: "Restart", now: at, term: 2}).state, at, last, left-1)
		}
	}
	walk(lease.State{}, 0, 0, 4)
}

// P18.2: epochs rise over long rows of calls and restarts, whatever the moments are; and nothing is granted ahead of Quiet.
func TestEpochsRise(t *testing.T) {
	grants, quiet := 0, 0
	for seed := range int64(40) {
		r := rand.New(rand.NewSource(seed))
		s := lease.State{}
		last, now := 0, 0
		for range 500 {
			now = max(0, now+r.Intn(6)-1)
			x := call{name: "Grant", now: now, term: 1 + r.Intn(10), place: r.Intn(4), holder: r.Intn(4)}
			if n := r.Intn(20); n == 0 {
				x.name = "Restart"
			} else if n < 6 {
				h, _ := lease.Who(s, now, x.place)
				x.name, x.holder, x.epoch = "Let", h.Holder, h.Epoch-r.Intn(2)
			}
			a := check(t, s, x)
			if x.name == "Grant" && now < s.Quiet {
				quiet++
				if a.e != api.ErrLate {
					t.Fatalf("granted at %d, quiet till %d", now, s.Quiet)
				}
			}
			if x.name == "Grant" && a.e == api.OK {
				grants++
				if a.num <= last || a.state.Epoch != a.num {
					t.Fatalf("epoch %d behind %d", a.num, last)
				}
				last = a.num
			}
			if x.name == "Restart" && a.state.Epoch != last {
				t.Fatalf("epoch %d behind a restart, not %d", a.state.Epoch, last)
			}
			s = a.state
		}
	}
	if grants < 1000 || quiet < 100 {
		t.Errorf("%d grants, %d ahead of Quiet", grants, quiet)
	}
}

// P18.1: whatever was granted ahead of a restart is over when anything is granted again, if the term is the longest one that was granted.
func TestQuietIsLongEnough(t *testing.T) {
	for granted := range 10 {
		for crash := granted; crash < granted+8; crash++ {
			s, _, _ := lease.Grant(lease.State{}, granted, 5, 1, 7)
			until := s.Holdings[1].Until
			u := lease.Restart(s, crash, 5)
			for now := crash; now < crash+12; now++ {
				_, _, e := lease.Grant(u, now, 5, 1, 8)
				if want := now >= crash+5; (e == api.OK) != want || !want && e != api.ErrLate || want && now < until {
					t.Fatalf("granted at %d, restart at %d: %d at %d", granted, crash, e, now)
				}
			}
		}
	}
}

// The chapter's example.
func TestExample(t *testing.T) {
	s, n, e := lease.Grant(lease.State{}, 5, 10, 1, 7)
	if n != 1 || e != api.OK || s.Holdings[1] != (lease.Holding{Holder: 7, Epoch: 1, Until: 15}) {
		t.Errorf("%+v, %d, %d", s, n, e)
	}
	if _, _, e := lease.Grant(s, 14, 10, 1, 8); e != api.ErrBusy {
		t.Errorf("at 14: %d", e)
	}
	u, n, e := lease.Grant(s, 15, 10, 1, 8)
	if n != 2 || e != api.OK {
		t.Errorf("at 15: %d, %d", n, e)
	}
	if v, n, e := lease.Grant(s, 6, 10, 1, 7); n != 2 || e != api.OK || v.Holdings[1].Until != 16 {
		t.Errorf("again: %+v, %d, %d", v, n, e)
	}
	u = lease.Restart(u, 20, 10)
	if _, _, e := lease.Grant(u, 29, 10, 1, 8); e != api.ErrLate {
		t.Errorf("at 29: %d", e)
	}
	if _, n, e := lease.Grant(u, 30, 10, 1, 8); n != 3 || e != api.OK {
		t.Errorf("at 30: %d, %d", n, e)
	}
}
