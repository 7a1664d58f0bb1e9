package recv_test

import (
	"math/rand"
	"testing"

	"tiller/api"
	"tiller/recv"
	"tiller/send"
)

// text is one of so many bytes that doesn't soon repeat itself, so that a part in a wrong place shows.
func text(length int) string {
	b := make([]byte, length)
	for i := range b {
		b[i] = byte(i ^ i>>7 ^ i>>12)
	}
	return string(b)
}

// sent are a text's parts as they are sent, and the state of who awaits them.
func sent(t *testing.T, num int, text string, size int) ([]send.Part, recv.State) {
	t.Helper()
	from, e := send.Begin(num, text, size)
	if e != api.OK {
		t.Fatalf("send.Begin: %d", e)
	}
	parts := send.Next(from, send.MaxParts)
	s, e := recv.Begin(num, len(parts))
	if e != api.OK || len(parts) != len(from.Parts) {
		t.Fatalf("Begin: %d", e)
	}
	return parts, s
}

// play lets parts come in a row, and asks behind each that the text is whole just when each of them came, and is itself.
func play(t *testing.T, s recv.State, parts []send.Part, row []int, text string) {
	t.Helper()
	came := make([]bool, len(parts))
	left := len(parts)
	for _, at := range row {
		u, isNew, e := recv.Take(s, parts[at])
		if e != api.OK || isNew == came[at] {
			t.Fatalf("%v: part %d: %v, %d", row, at, isNew, e)
		}
		if !came[at] {
			came[at] = true
			left--
		}
		s = u
		got, ok := recv.Whole(s)
		if recv.Missing(s) != left || ok != (left == 0) || ok && got != text || !ok && got != "" {
			t.Fatalf("%v: behind part %d: %d missing, %v, %d bytes", row, at, recv.Missing(s), ok, len(got))
		}
	}
	if left > 0 {
		t.Fatalf("%v: %d parts never came", row, left)
	}
}

// P21.2: every order of at most five parts, by every one of their sizes, with a part that comes twice at each place.
func TestEveryOrder(t *testing.T) {
	for length := range 11 {
		for size := 2; size <= 11; size++ {
			whole := text(length)
			parts, s := sent(t, 7, whole, size)
			var walk func(row []int)
			walk = func(row []int) {
				if len(row) == len(parts) {
					play(t, s, parts, row, whole)
					for again := range row {
						twice := append([]int{}, row[:again+1]...)
						play(t, s, parts, append(append(twice, row[:again+1]...), row[again+1:]...), whole)
					}
					return
				}
				for at := range parts {
					if !has(row, at) {
						walk(append(row[:len(row):len(row)], at))
					}
				}
			}
			walk(nil)
		}
	}
}

// has tells whether a number is in a row.
func has(row []int, n int) bool {
	for _, m := range row {
		if m == n {
			return true
		}
	}
	return false
}

// P21.2: every row of six parts in which each of three comes at least once.
func TestEveryRow(t *testing.T) {
	parts, s := sent(t, 7, "abcde", 2)
	for n := range 729 {
		var row []int
		for range 6 {
			row = append(row, n%3)
			n /= 3
		}
		if has(row, 0) && has(row, 1) && has(row, 2) {
			play(t, s, parts, row, "abcde")
		}
	}
}

// P21.2: many parts in many orders, some of them more than once, of texts about a whole number of parts.
func TestManyOrders(t *testing.T) {
	for seed := range int64(300) {
		r := rand.New(rand.NewSource(seed))
		size := 1 + r.Intn(50)
		length := max(0, r.Intn(60)*size+r.Intn(3)-1)
		whole := text(length)
		parts, s := sent(t, int(seed), whole, size)
		row := r.Perm(len(parts))
		for range r.Intn(2 * len(parts)) {
			row = append(row, r.Intn(len(parts)))
		}
		r.Shuffle(len(row), func(i, j int) { row[i], row[j] = row[j], row[i] })
		play(t, s, parts, row, whole)
	}
}

// P21.2: a text of as many and as great parts as there may be.
func TestGreatest(t *testing.T) {
	whole := text(4096 * 512)
	parts, s := sent(t, 1, whole, 4096)
	for _, at := range rand.New(rand.NewSource(1)).Perm(512) {
		if _, ok := recv.Whole(s); ok {
			t.Fatalf("whole with %d missing", recv.Missing(s))
		}
		u, isNew, e := recv.Take(s, parts[at])
		if !isNew || e != api.OK {
			t.Fatalf("part %d: %v, %d", at, isNew, e)
		}
		s = u
	}
	if got, ok := recv.Whole(s); !ok || got != whole {
		t.Errorf("%v, %d bytes", ok, len(got))
	}
}

// P21.2: whatever is lost, is doubled, or comes late on either way, among parts that aren't the text's: what is whole in the end is the text.
func TestLossyWay(t *testing.T) {
	for seed := range int64(200) {
		r := rand.New(rand.NewSource(seed))
		whole := text(r.Intn(200))
		size := 1 + r.Intn(20)
		from, _ := send.Begin(7, whole, size)
		to, _ := recv.Begin(7, len(from.Parts))
		var way []send.Part
		for rounds := 0; !send.Over(from); rounds++ {
			if rounds > 100000 {
				t.Fatalf("seed %d: never over", seed)
			}
			way = append(way, send.Next(from, r.Intn(4))...)
			if len(way) == 0 {
				continue
			}
			p := way[r.Intn(len(way))]
			if wrong := p; r.Intn(4) == 0 {
				wrong.Num, wrong.Text = 8, "another"
				if u, isNew, e := recv.Take(to, wrong); isNew || e != api.ErrOld || !sameState(u, to) {
					t.Fatalf("seed %d: %+v: %v, %d", seed, wrong, isNew, e)
				}
			}
			u, _, e := recv.Take(to, p)
			if e != api.OK {
				t.Fatalf("seed %d: %+v: %d", seed, p, e)
			}
			to = u
			if r.Intn(3) > 0 {
				from, _ = send.Got(from, p.Num, p.At)
			}
			if len(way) > 30 {
				way = way[10:]
			}
			if got, ok := recv.Whole(to); ok && got != whole {
				t.Fatalf("seed %d: %q", seed, got)
			}
		}
		if got, ok := recv.Whole(to); !ok || got != whole {
			t.Fatalf("seed %d: over, but not whole: %q, %v", seed, got, ok)
		}
	}
}
