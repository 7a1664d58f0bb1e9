package holder_test

import (
	"maps"
	"math"
	"math/rand"
	"testing"

	"tiller/api"
	"tiller/holder"
)

// call is one call of a state; fields that it hasn't are not asked.
type call struct {
	name       string
	now, place int
	plan       holder.Plan
	num, epoch int
}

// answer is what a call answers; fields that it hasn't are zero.
type answer struct {
	state holder.State
	num   int
	ok    bool
	e     api.Errno
}

// names are those of all calls.
func names() []string {
	return []string{"Ask", "Granted", "Denied", "Believes", "Let", "Crash"}
}

// ask calls the program.
func ask(s holder.State, x call) answer {
	var a answer
	switch x.name {
	case "Ask":
		a.state, a.num, a.e = holder.Ask(s, x.now, x.place)
	case "Granted":
		a.state, a.e = holder.Granted(s, x.now, x.plan, x.place, x.num, x.epoch)
	case "Denied":
		a.state, a.e = holder.Denied(s, x.place, x.num)
	case "Believes":
		a.num, a.ok = holder.Believes(s, x.now, x.place)
	case "Let":
		a.state, a.num, a.e = holder.Let(s, x.place)
	case "Crash":
		a.state = holder.Crash(s)
	}
	return a
}

// deep is a state by itself, with maps that may be written.
func deep(s holder.State) holder.State {
	wants, has := map[int]holder.Want{}, map[int]holder.Have{}
	maps.Copy(wants, s.Wants)
	maps.Copy(has, s.Has)
	return holder.State{Life: s.Life, Count: s.Count, Wants: wants, Has: has}
}

// outside tells whether n isn't least to most.
func outside(n, least, most int) bool {
	return n < least || n > most
}

// asked is Ask as the chapter tells it.
func asked(s holder.State, x call) answer {
	if outside(x.now, 0, 1099511627776) || s.Life < 0 || s.Count < 0 {
		return answer{state: s, e: api.ErrArg}
	}
	if s.Life >= 524288 || s.Count >= 1048575 {
		return answer{state: s, e: api.ErrBig}
	}
	u := deep(s)
	u.Count++
	num := u.Life*1048576 + u.Count
	u.Wants[x.place] = holder.Want{Num: num, At: x.now}
	return answer{state: u, num: num}
}

// granted is Granted as the chapter tells it.
func granted(s holder.State, x call) answer {
	a := denied(s, x)
	if a.e != api.OK {
		return a
	}
	at := s.Wants[x.place].At
	if outside(x.plan.Term, 1, 1048576) || outside(x.plan.Margin, 0, 1048576) || outside(x.now, 0, 1099511627776) || outside(at, 0, 1099511627776) {
		return answer{state: s, e: api.ErrArg}
	}
	until := at + x.plan.Term - x.plan.Margin
	if until <= x.now {
		a.e = api.ErrLate
		return a
	}
	if h, had := s.Has[x.place]; had && h.Epoch == x.epoch && h.Until > until {
		until = h.Until
	}
	a.state.Has[x.place] = holder.Have{Epoch: x.epoch, Until: until}
	return a
}

// denied is Denied as the chapter tells it.
func denied(s holder.State, x call) answer {
	w, open := s.Wants[x.place]
	if !open {
		return answer{state: s, e: api.ErrNone}
	}
	if w.Num != x.num {
		return answer{state: s, e: api.ErrOld}
	}
	u := deep(s)
	delete(u.Wants, x.place)
	return answer{state: u}
}

// wanted is what the chapter says of a call.
func wanted(s holder.State, x call) answer {
	h, had := s.Has[x.place]
	switch x.name {
	case "Ask":
		return asked(s, x)
	case "Granted":
		return granted(s, x)
	case "Denied":
		return denied(s, x)
	case "Believes":
		if !had || h.Until <= x.now {
			return answer{}
		}
		return answer{num: h.Epoch, ok: true}
	case "Let":
		if !had {
			return answer{state: s, e: api.ErrNone}
		}
		u := deep(s)
		delete(u.Has, x.place)
		return answer{state: u, num: h.Epoch}
	}
	switch {
	case s.Life < 0:
		return answer{state: holder.State{Life: 1}}
	case s.Life > 524287:
		return answer{state: holder.State{Life: 524288}}
	}
	return answer{state: holder.State{Life: s.Life + 1}}
}

// sameState tells whether two states are the same; no map and an empty one are.
func sameState(s, u holder.State) bool {
	return s.Life == u.Life && s.Count == u.Count && maps.Equal(s.Wants, u.Wants) && maps.Equal(s.Has, u.Has)
}

// same tells whether two answers are the same.
func same(a, b answer) bool {
	return sameState(a.state, b.state) && a.num == b.num && a.ok == b.ok && a.e == b.e
}

// spoil changes all that a state's maps hold.
func spoil(s holder.State) {
	for place := range s.Wants {
		s.Wants[place] = holder.Want{Num: -77, At: -77}
	}
	for place := range s.Has {
		s.Has[place] = holder.Have{Epoch: -77, Until: -77}
	}
	if s.Wants != nil {
		s.Wants[-77] = holder.Want{Num: 77, At: 77}
	}
	if s.Has != nil {
		s.Has[-77] = holder.Have{Epoch: 77, Until: 77}
	}
}

// check holds a call against the chapter, and asks that neither the state that is handed in nor what is answered changes with the other.
func check(t *testing.T, s holder.State, x call) answer {
	t.Helper()
	was := deep(s)
	want := wanted(deep(s), x)
	first := ask(s, x)
	if !same(first, want) {
		t.Fatalf("%+v of %+v: %+v, not %+v", x, was, first, want)
	}
	spoil(first.state)
	if !sameState(s, was) {
		t.Fatalf("%+v changed %+v into %+v", x, was, s)
	}
	handed := deep(s)
	second := ask(handed, x)
	spoil(handed)
	if !same(second, want) {
		t.Fatalf("%+v of %+v: the answer changed with the state: %+v", x, was, second)
	}
	return second
}

// edges are numbers at, below and above each bound, and far from them.
func edges() []int {
	return []int{
		math.MinInt, math.MinInt + 1, -1 << 40, -1, 0, 1, 2, 5,
		1<<19 - 2, 1<<19 - 1, 1 << 19, 1<<19 + 1, 1<<20 - 2, 1<<20 - 1, 1 << 20, 1<<20 + 1,
		1<<40 - 1<<20, 1<<40 - 1, 1 << 40, 1<<40 + 1, 1<<40 + 1<<20, math.MaxInt - 1, math.MaxInt,
	}
}

// pick is one of some numbers.
func pick(r *rand.Rand, l ...int) int {
	return l[r.Intn(len(l))]
}

// mostly is a number below most, now and then any one.
func mostly(r *rand.Rand, most int) int {
	if r.Intn(4) == 0 {
		return pick(r, edges()...)
	}
	return r.Intn(most)
}

// somePlace is a place.
func somePlace(r *rand.Rand) int {
	return pick(r, math.MinInt, -1, 0, 1, 2, math.MaxInt)
}

// someState is any state.
func someState(r *rand.Rand) holder.State {
	s := holder.State{Life: mostly(r, 10), Count: mostly(r, 10)}
	if r.Intn(8) > 0 {
		s.Wants = map[int]holder.Want{}
		for range r.Intn(6) {
			s.Wants[somePlace(r)] = holder.Want{Num: pick(r, -1, 0, 1, 2), At: mostly(r, 20)}
		}
	}
	if r.Intn(8) > 0 {
		s.Has = map[int]holder.Have{}
		for range r.Intn(6) {
			s.Has[somePlace(r)] = holder.Have{Epoch: pick(r, -1, 0, 1, math.MaxInt), Until: mostly(r, 20)}
		}
	}
	return s
}

// someCall is any call.
func someCall(r *rand.Rand, name string) call {
	p := holder.Plan{Term: mostly(r, 20), Margin: mostly(r, 5)}
	return call{name: name, now: mostly(r, 20), place: somePlace(r), plan: p, num: pick(r, -1, 0, 1, 2), epoch: pick(r, -1, 0, 1, math.MaxInt)}
}

// P19.1, P19.3: each call of any state; each answer there is comes up.
func TestAnyState(t *testing.T) {
	type kind struct {
		name string
		ok   bool
		e    api.Errno
	}
	seen := map[kind]int{}
	r := rand.New(rand.NewSource(1))
	for range 60000 {
		for _, name := range names() {
			a := check(t, someState(r), someCall(r, name))
			seen[kind{name, a.ok, a.e}]++
		}
	}
	for _, k := range []kind{
		{"Ask", false, api.OK}, {"Ask", false, api.ErrArg}, {"Ask", false, api.ErrBig},
		{"Granted", false, api.OK}, {"Granted", false, api.ErrNone}, {"Granted", false, api.ErrOld}, {"Granted", false, api.ErrArg}, {"Granted", false, api.ErrLate},
		{"Denied", false, api.OK}, {"Denied", false, api.ErrNone}, {"Denied", false, api.ErrOld},
		{"Believes", true, api.OK}, {"Believes", false, api.OK},
		{"Let", false, api.OK}, {"Let", false, api.ErrNone}, {"Crash", false, api.OK},
	} {
		if seen[k] < 100 {
			t.Errorf("%v came up %d times", k, seen[k])
		}
	}
}

// P19.1: Ask with every choice of Life, Count and now about their bounds; and Crash of every Life.
func TestAskBounds(t *testing.T) {
	for _, life := range edges() {
		for _, count := range edges() {
			s := holder.State{Life: life, Count: count, Wants: map[int]holder.Want{1: {Num: 9, At: 3}, 2: {Num: 8, At: 2}}, Has: map[int]holder.Have{1: {Epoch: 3, Until: 4}}}
			for _, now := range edges() {
				check(t, s, call{name: "Ask", now: now, place: 1})
				check(t, holder.State{Life: life, Count: count}, call{name: "Ask", now: now, place: now})
			}
			check(t, s, call{name: "Crash"})
		}
	}
}

// P19.1: Granted with every choice of now, the want's moment, Term and Margin about their bounds, and about the moment at which it is late.
func TestGrantedBounds(t *testing.T) {
	bounds := []int{math.MinInt, -1, 0, 1, 2, 1<<20 - 1, 1 << 20, 1<<20 + 1, math.MaxInt}
	for _, at := range []int{math.MinInt, -1, 0, 1, 1 << 20, 1<<40 - 1, 1 << 40, 1<<40 + 1, math.MaxInt} {
		for _, term := range bounds {
			for _, margin := range bounds {
				nows := []int{math.MinInt, -1, 0, 1, 1<<40 - 1, 1 << 40, 1<<40 + 1, math.MaxInt}
				until := at + term - margin // it may wrap round where a bound isn't kept
				nows = append(nows, until-1, until, until+1)
				for _, now := range nows {
					s := holder.State{Wants: map[int]holder.Want{1: {Num: 5, At: at}}}
					for _, epoch := range []int{7, 8} {
						for _, num := range []int{5, 6} {
							x := call{"Granted", now, 1, holder.Plan{Term: term, Margin: margin}, num, epoch}
							s.Has = map[int]holder.Have{1: {Epoch: 7, Until: until + 1}, 2: {Epoch: 7, Until: 1}}
							if got, want := ask(s, x), wanted(s, x); !same(got, want) {
								t.Fatalf("%+v of %+v: %+v, not %+v", x, s, got, want)
							}
						}
					}
				}
			}
		}
	}
}

// P19.1: of two and more errors the first that the chapter names.
func TestFirstError(t *testing.T) {
	s := holder.State{Wants: map[int]holder.Want{1: {Num: 5, At: 10}, 2: {Num: 6, At: -1}}}
	right, wrong := holder.Plan{Term: 10, Margin: 3}, holder.Plan{Term: 0, Margin: -1}
	rows := []struct {
		place, num, now int
		p               holder.Plan
		e               api.Errno
	}{
		{0, 5, -1, wrong, api.ErrNone},
		{0, 0, 12, right, api.ErrNone},
		{1, 6, -1, wrong, api.ErrOld},
		{1, 6, 99, right, api.ErrOld},
		{2, 5, 0, right, api.ErrOld},
		{2, 6, 0, right, api.ErrArg},
		{1, 5, -1, right, api.ErrArg},
		{1, 5, 99, wrong, api.ErrArg},
		{1, 5, 99, holder.Plan{Term: 10, Margin: 1<<20 + 1}, api.ErrArg},
		{1, 5, 17, right, api.ErrLate},
		{1, 5, 0, holder.Plan{Term: 1, Margin: 1 << 20}, api.ErrLate},
		{1, 5, 16, right, api.OK},
	}
	for _, x := range rows {
		u, e := holder.Granted(s, x.now, x.p, x.place, x.num, 7)
		if e != x.e || (e != api.OK && e != api.ErrLate) != sameState(s, u) {
			t.Errorf("%+v: %+v, %d", x, u, e)
		}
	}
	for _, x := range []struct {
		life, count, now int
		e                api.Errno
	}{
		{1 << 19, 1<<20 - 1, -1, api.ErrArg}, {1 << 19, -1, 0, api.ErrArg}, {-1, 1<<20 - 1, 0, api.ErrArg},
		{1 << 19, 0, 0, api.ErrBig}, {0, 1<<20 - 1, 0, api.ErrBig}, {1<<19 - 1, 1<<20 - 2, 1 << 40, api.OK},
	} {
		if _, _, e := holder.Ask(holder.State{Life: x.life, Count: x.count}, x.now, 1); e != x.e {
			t.Errorf("%+v: %d", x, e)
		}
	}
}

// P19.1: a grant that is late ends the want and nothing else; what was had stays.
func TestLate(t *testing.T) {
	s := holder.State{Life: 2, Count: 9, Wants: map[int]holder.Want{1: {Num: 5, At: 10}, 2: {Num: 6, At: 10}}, Has: map[int]holder.Have{1: {Epoch: 3, Until: 4}, 3: {Epoch: 4, Until: 99}}}
	want := deep(s)
	delete(want.Wants, 1)
	for _, epoch := range []int{3, 7} {
		u, e := holder.Granted(s, 17, holder.Plan{Term: 10, Margin: 3}, 1, 5, epoch)
		if e != api.ErrLate || !sameState(u, want) {
			t.Errorf("epoch %d: %+v, %d", epoch, u, e)
		}
	}
}

// P19.1: a grant of the epoch that is had already lengthens the lease, but doesn't shorten it; one of another epoch takes its stead.
func TestSameEpoch(t *testing.T) {
	for _, x := range []struct{ had, until, epoch, want int }{
		{7, 16, 7, 17}, {7, 17, 7, 17}, {7, 18, 7, 18}, {7, math.MaxInt, 7, math.MaxInt}, {7, math.MinInt, 7, 17},
		{6, 18, 7, 17}, {8, 18, 7, 17}, {6, 16, 7, 17}, {-7, 18, 7, 17}, {0, 18, 0, 18}, {-3, 18, -3, 18},
	} {
		s := holder.State{Wants: map[int]holder.Want{1: {Num: 5, At: 10}}, Has: map[int]holder.Have{1: {Epoch: x.had, Until: x.until}}}
		u, e := holder.Granted(s, 12, holder.Plan{Term: 10, Margin: 3}, 1, 5, x.epoch)
		if e != api.OK || u.Has[1] != (holder.Have{Epoch: x.epoch, Until: x.want}) || len(u.Has) != 1 || len(u.Wants) != 0 {
			t.Errorf("%+v: %+v, %d", x, u, e)
		}
	}
	s := holder.State{Wants: map[int]holder.Want{1: {Num: 5, At: 10}}}
	if u, e := holder.Granted(s, 12, holder.Plan{Term: 10, Margin: 3}, 1, 5, 0); e != api.OK || u.Has[1] != (holder.Have{Epoch: 0, Until: 17}) {
		t.Errorf("epoch 0: %+v, %d", u, e)
	}
}

// P19.1: Let and Believes of a lease at any moment: it is had until it is let, but isn't believed in when it is over.
func TestLetWhenever(t *testing.T) {
	for _, until := range edges() {
		s := holder.State{Life: 3, Count: 4, Wants: map[int]holder.Want{1: {Num: 5, At: 6}}, Has: map[int]holder.Have{1: {Epoch: 9, Until: until}, 2: {Epoch: 8, Until: until}}}
		for _, now := range edges() {
			a := check(t, s, call{name: "Believes", now: now, place: 1})
			if a.ok != (until > now) {
				t.Errorf("until %d, at %d: %t", until, now, a.ok)
			}
			check(t, s, call{name: "Believes", now: now, place: 3})
		}
		a := check(t, s, call{name: "Let", place: 1})
		if a.num != 9 || a.e != api.OK {
			t.Errorf("until %d: %+v", until, a)
		}
		if check(t, a.state, call{name: "Let", place: 1}).e != api.ErrNone {
			t.Error("it is had, though it was let")
		}
	}
}

// P19.1: numbers of wants are unlike, of one life and of unlike ones, also of the last want of a life and the first of the next.
func TestNumbersUnlike(t *testing.T) {
	seen := map[int]holder.State{}
	for _, life := range []int{0, 1, 2, 3, 1<<19 - 2, 1<<19 - 1} {
		for _, count := range []int{0, 1, 2, 3, 1<<19 - 1, 1 << 19, 1<<20 - 4, 1<<20 - 3, 1<<20 - 2} {
			s := holder.State{Life: life, Count: count}
			_, num, e := holder.Ask(s, 0, 1)
			if was, there := seen[num]; there || e != api.OK || num < 1 || num >= 1<<39 {
				t.Errorf("%+v: number %d, %d, as of %+v", s, num, e, was)
			}
			seen[num] = s
		}
	}
	all := map[int]int{}
	s := holder.State{}
	r := rand.New(rand.NewSource(3))
	for i := range 5000 {
		if r.Intn(7) == 0 {
			s = holder.Crash(s)
		}
		u, num, e := holder.Ask(s, r.Intn(9), r.Intn(3))
		if all[num]++; all[num] > 1 || e != api.OK {
			t.Fatalf("want %d: number %d again, %d", i, num, e)
		}
		s = u
	}
}

// P19.1: a want that is asked anew is forgotten: its number is of an elder want.
func TestForgotten(t *testing.T) {
	p := holder.Plan{Term: 10, Margin: 3}
	s, first, _ := holder.Ask(holder.State{}, 5, 1)
	s, other, _ := holder.Ask(s, 5, 2)
	s, then, _ := holder.Ask(s, 6, 1)
	if first == then || first == other || s.Count != 3 {
		t.Errorf("%d, %d, %d: %+v", first, other, then, s)
	}
	if a := check(t, s, call{"Granted", 7, 1, p, first, 4}); a.e != api.ErrOld {
		t.Errorf("Granted: %d", a.e)
	}
	if a := check(t, s, call{name: "Denied", place: 1, num: first}); a.e != api.ErrOld {
		t.Errorf("Denied: %d", a.e)
	}
	if a := check(t, s, call{"Granted", 7, 1, p, then, 4}); a.e != api.OK || a.state.Has[1].Until != 13 {
		t.Errorf("the younger one: %+v", a)
	}
	if a := check(t, s, call{"Granted", 7, 2, p, other, 4}); a.e != api.OK || a.state.Has[2].Until != 12 {
		t.Errorf("another place: %+v", a)
	}
}

// P19.1, P19.3: every row of four calls from the zero State on.
func TestEveryRow(t *testing.T) {
	p := holder.Plan{Term: 4, Margin: 1}
	var walk func(s holder.State, now, left int)
	walk = func(s holder.State, now, left int) {
		if left == 0 {
			return
		}
		for place := range 2 {
			check(t, s, call{name: "Believes", now: now, place: place})
			num := s.Wants[place].Num
			for _, x := range []call{
				{"Ask", now, place, p, 0, 0}, {"Granted", now, place, p, num, now}, {"Granted", now + 1, place, p, num, 1}, {"Granted", now, place, p, num - 1, 1},
				{"Denied", now, place, p, num, 0}, {"Denied", now, place, p, num + 1, 0}, {"Let", now, place, p, 0, 0}, {"Crash", now, place, p, 0, 0},
			} {
				walk(check(t, s, x).state, now+1, left-1)
			}
		}
	}
	walk(holder.State{}, 0, 4)
}

// The chapter's example.
func TestExample(t *testing.T) {
	p := holder.Plan{Term: 10, Margin: 3}
	s, n, e := holder.Ask(holder.State{}, 5, 1)
	if n != 1 || e != api.OK {
		t.Errorf("Ask: %d, %d", n, e)
	}
	u, e := holder.Granted(s, 8, p, 1, 1, 7)
	if e != api.OK || u.Has[1].Until != 12 {
		t.Errorf("Granted: %+v, %d", u, e)
	}
	if x, ok := holder.Believes(u, 11, 1); x != 7 || !ok {
		t.Errorf("at 11: %d, %t", x, ok)
	}
	if x, ok := holder.Believes(u, 12, 1); x != 0 || ok {
		t.Errorf("at 12: %d, %t", x, ok)
	}
	if _, e := holder.Granted(u, 8, p, 1, 1, 7); e != api.ErrNone {
		t.Errorf("again: %d", e)
	}
	if _, n, e := holder.Ask(holder.Crash(u), 5, 1); n != 1048577 || e != api.OK {
		t.Errorf("another life: %d, %d", n, e)
	}
}
