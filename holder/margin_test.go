package holder_test

import (
	"math/rand"
	"testing"

	"tiller/api"
	"tiller/clock"
	"tiller/holder"
	"tiller/lease"
)

// note is a message between the authority and a holder.
type note struct {
	kind                    string // "want" and "let" go to the authority, "grant" and "deny" to the holder
	node, place, num, epoch int
}

// world is an authority, node 0, and holders with clocks that drift by no more than the plan's margin, and what is on its way between them.
type world struct {
	plan      holder.Plan
	places    int
	clocks    *clock.Clocks
	authority lease.State
	holders   []holder.State // that of node 0 isn't asked
	way       []note
	anew      int // the last epoch that was granted ahead of the authority's last restart
	seen      map[string]int
}

// newWorld is a world of n nodes in which nothing was asked.
func newWorld(n, places int, p holder.Plan) *world {
	c, _ := clock.New(n)
	return &world{plan: p, places: places, clocks: c, holders: make([]holder.State, n), seen: map[string]int{}}
}

// tick lets a clock go on, if it drifts by no more than the margin then.
func (w *world) tick(i int) {
	then := w.clocks.Copy()
	then.Tick(i)
	if then.Worst() <= w.plan.Margin {
		w.clocks = then
	}
}

// ask lets a holder ask for a place.
func (w *world) ask(i, place int) {
	s, num, e := holder.Ask(w.holders[i], w.clocks.Now(i), place)
	if e == api.OK {
		w.holders[i] = s
		w.way = append(w.way, note{kind: "want", node: i, place: place, num: num})
	}
}

// let lets a holder give a place back.
func (w *world) let(i, place int) {
	s, epoch, e := holder.Let(w.holders[i], place)
	if e == api.OK {
		w.holders[i] = s
		w.way = append(w.way, note{kind: "let", node: i, place: place, epoch: epoch})
	}
}

// come lets the message at a place come; twice: it stays on its way, too.
func (w *world) come(k int, twice bool) {
	x := w.way[k]
	if !twice {
		w.lose(k)
	}
	now, own := w.clocks.Now(0), w.clocks.Now(x.node)
	var e api.Errno
	switch x.kind {
	case "want":
		var epoch int
		w.authority, epoch, e = lease.Grant(w.authority, now, w.plan.Term, x.place, x.node)
		y := note{kind: "grant", node: x.node, place: x.place, num: x.num, epoch: epoch}
		if e != api.OK {
			y.kind = "deny"
		}
		w.way = append(w.way, y)
	case "let":
		w.authority, e = lease.Let(w.authority, now, x.place, x.node, x.epoch)
	case "grant":
		w.holders[x.node], e = holder.Granted(w.holders[x.node], own, w.plan, x.place, x.num, x.epoch)
	case "deny":
		w.holders[x.node], e = holder.Denied(w.holders[x.node], x.place, x.num)
	}
	w.seen[x.kind+": "+e.Error()]++
}

// lose lets the message at a place be gone.
func (w *world) lose(k int) {
	w.way = append(w.way[:k:k], w.way[k+1:]...)
}

// look asks P19.2 of the world: at most one holder believes in a place, and the authority knows it, if it hasn't begun anew since.
func (w *world) look(t *testing.T) {
	t.Helper()
	for place := range w.places {
		who, by := 0, 0
		for i := 1; i < len(w.holders); i++ {
			epoch, ok := holder.Believes(w.holders[i], w.clocks.Now(i), place)
			if ok && who != 0 {
				t.Fatalf("%+v: both %d and %d believe in place %d", w, who, i, place)
			}
			if ok {
				who, by = i, epoch
			}
		}
		if who == 0 {
			continue
		}
		w.seen["belief"]++
		if by <= w.anew {
			w.seen["belief ahead of a restart"]++
			continue
		}
		h, ok := lease.Who(w.authority, w.clocks.Now(0), place)
		if !ok || h.Holder != who || h.Epoch < by {
			t.Fatalf("%+v: %d believes in place %d by epoch %d, the authority knows %+v, %t", w, who, place, by, h, ok)
		}
		if h.Epoch > by {
			w.seen["a later epoch"]++
		}
	}
}

// step lets something happen; the node of pace ticks more often than others.
func (w *world) step(r *rand.Rand, pace int) {
	n := len(w.holders)
	i, place := 1+r.Intn(n-1), r.Intn(w.places)
	switch k := r.Intn(100); {
	case k < 20:
		w.tick(pace)
	case k < 45:
		w.tick(r.Intn(n))
	case k < 60:
		w.ask(i, place)
	case k < 63:
		w.let(i, place)
	case k < 64:
		w.holders[i] = holder.Crash(w.holders[i])
	case k < 65 && r.Intn(4) == 0:
		w.authority = lease.Restart(w.authority, w.clocks.Now(0), w.plan.Term)
		w.anew = w.authority.Epoch
	case len(w.way) == 0:
	case k < 70:
		w.come(r.Intn(len(w.way)), true)
	case k < 92:
		w.come(len(w.way)-1-r.Intn(min(len(w.way), 3)), false)
	case k < 96:
		w.come(r.Intn(len(w.way)), false)
	default:
		w.lose(r.Intn(len(w.way)))
	}
	for len(w.way) > 30 {
		w.lose(r.Intn(len(w.way)))
	}
}

// P19.2: whatever is lost, late and doubled, whoever crashes, at most one holder believes in a place, as long as clocks drift by no more than the margin.
func TestMargin(t *testing.T) {
	all := map[string]int{}
	for seed := range int64(400) {
		r := rand.New(rand.NewSource(seed))
		margin := r.Intn(4)
		w := newWorld(3+r.Intn(3), 1+r.Intn(2), holder.Plan{Term: margin + 1 + r.Intn(8), Margin: margin})
		pace := 0
		for step := range 1500 {
			if step%25 == 0 {
				pace = r.Intn(len(w.holders))
			}
			w.step(r, pace)
			w.look(t)
		}
		for what, n := range w.seen {
			all[what] += n
		}
	}
	for _, what := range []string{
		"belief", "belief ahead of a restart", "a later epoch",
		"want: ok", "want: busy", "want: late", "let: ok", "let: old", "let: none",
		"grant: ok", "grant: old", "grant: none", "grant: late", "deny: ok", "deny: old", "deny: none",
	} {
		if all[what] < 100 {
			t.Errorf("%s: it came up %d times", what, all[what])
		}
	}
}

// believesWrongly plays a row of ticks of the authority and of one holder, which asks ahead of tick ask; the want comes ahead of tick want, the grant ahead of tick grant: is there a moment at which the holder believes, and the authority's Holding is over?
func believesWrongly(p holder.Plan, ticks []int, ask, want, grant int) bool {
	c, _ := clock.New(2)
	var authority lease.State
	var own holder.State
	num, epoch := 0, 0
	for k := range len(ticks) + 1 {
		if k == ask {
			own, num, _ = holder.Ask(own, c.Now(1), 0)
		}
		if k == want {
			authority, epoch, _ = lease.Grant(authority, c.Now(0), p.Term, 0, 1)
		}
		if k == grant {
			own, _ = holder.Granted(own, c.Now(1), p, 0, num, epoch)
		}
		_, believes := holder.Believes(own, c.Now(1), 0)
		if _, known := lease.Who(authority, c.Now(0), 0); believes && !known {
			return true
		}
		if k < len(ticks) {
			c.Tick(ticks[k])
		}
	}
	return false
}

// P19.2: every row of nine ticks of two clocks, with a want and a grant that come at once or late: within the margin the authority knows who believes; with a drift of one tick more it may not.
func TestEveryStretch(t *testing.T) {
	type bounds struct{ term, margin int }
	wrong := map[bounds]int{}
	for row := range 1 << 9 {
		ticks := make([]int, 9)
		for k := range ticks {
			ticks[k] = row >> k & 1
		}
		c, _ := clock.Play(2, ticks)
		for term := 1; term <= 5; term++ {
			for margin := 0; margin <= 3; margin++ {
				p := holder.Plan{Term: term, Margin: margin}
				if c.Worst() > margin+1 {
					continue
				}
				for ask := range 10 {
					for want := ask; want < 10; want++ {
						for grant := want; grant < 10; grant++ {
							if !believesWrongly(p, ticks, ask, want, grant) {
								continue
							}
							if c.Worst() <= margin {
								t.Fatalf("%+v, ticks %v: asked at %d, wanted at %d, granted at %d", p, ticks, ask, want, grant)
							}
							wrong[bounds{term, margin}]++
						}
					}
				}
			}
		}
	}
	for term := 1; term <= 5; term++ {
		for margin := range min(term, 4) {
			if wrong[bounds{term, margin}] == 0 {
				t.Errorf("term %d, margin %d: more is given away than the margin", term, margin)
			}
		}
	}
}

// P19.2: a margin of the term or more leaves nothing to believe in.
func TestWholeMargin(t *testing.T) {
	for term := 1; term <= 4; term++ {
		for margin := term; margin <= term+2; margin++ {
			s, num, _ := holder.Ask(holder.State{}, 5, 1)
			if u, e := holder.Granted(s, 5, holder.Plan{Term: term, Margin: margin}, 1, num, 1); e != api.ErrLate || len(u.Has) != 0 {
				t.Errorf("term %d, margin %d: %+v, %d", term, margin, u, e)
			}
		}
	}
}
