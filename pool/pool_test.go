package pool_test

import (
	"math"
	"math/rand"
	"slices"
	"testing"

	"tiller/api"
	"tiller/pool"
)

// call is one call of a pool that may change it.
type call struct {
	name string
	i    int
	key  int
}

// answer is what such a call answers; fields that it has not are zero.
type answer struct {
	page, gone int
	had        bool
	e          api.Errno
}

// ask calls a pool.
func ask(p *pool.Pool, x call) answer {
	switch x.name {
	case "Take":
		page, gone, had, e := p.Take()
		return answer{page, gone, had, e}
	case "Hold":
		return answer{e: p.Hold(x.i)}
	case "Seal":
		return answer{e: p.Seal(x.i, x.key)}
	case "Drop":
		return answer{e: p.Drop(x.i)}
	}
	return answer{e: p.Forget(x.i)}
}

// book is a pool as the chapter tells it, by lists of pages.
type book struct {
	n    int
	refs map[int]int // of needed pages
	keys map[int]int // of sealed pages
	row  []int       // of idle pages
}

// newBook is a book of n free pages.
func newBook(n int) *book {
	return &book{n: n, refs: map[int]int{}, keys: map[int]int{}}
}

// idle tells whether page i stands in the row.
func (k *book) idle(i int) bool {
	return slices.Contains(k.row, i)
}

// there tells whether there is a page i that isn't free.
func (k *book) there(i int) bool {
	return k.refs[i] > 0 || k.idle(i)
}

// gone takes page i out of the row.
func (k *book) gone(i int) {
	if at := slices.Index(k.row, i); at >= 0 {
		k.row = slices.Delete(k.row, at, at+1)
	}
}

// find is the page of a key.
func (k *book) find(key int) (int, bool) {
	for i := range k.n {
		if has, ok := k.keys[i]; ok && has == key {
			return i, true
		}
	}
	return 0, false
}

// take is Take of the book.
func (k *book) take() answer {
	for i := range k.n {
		if !k.there(i) {
			k.refs[i] = 1
			return answer{page: i}
		}
	}
	if len(k.row) == 0 {
		return answer{e: api.ErrFull}
	}
	i := k.row[0]
	a := answer{page: i, gone: k.keys[i], had: true}
	k.gone(i)
	delete(k.keys, i)
	k.refs[i] = 1
	return a
}

// ask calls the book.
func (k *book) ask(x call) answer {
	_, sealed := k.keys[x.i]
	_, taken := k.find(x.key)
	switch {
	case x.name == "Take":
		return k.take()
	case x.name == "Forget" && !k.idle(x.i), x.name == "Drop" && k.refs[x.i] == 0, !k.there(x.i):
		return answer{e: api.ErrNone}
	case x.name == "Hold" && k.refs[x.i] == 1000:
		return answer{e: api.ErrBig}
	case x.name == "Seal" && (sealed || taken):
		return answer{e: api.ErrThere}
	case x.name == "Hold":
		k.gone(x.i)
		k.refs[x.i]++
	case x.name == "Seal":
		k.keys[x.i] = x.key
	case x.name == "Drop":
		if k.refs[x.i]--; k.refs[x.i] == 0 && sealed {
			k.row = append(k.row, x.i)
		}
	case x.name == "Forget":
		k.gone(x.i)
		delete(k.keys, x.i)
	}
	return answer{}
}

// made is a pool that New makes without an error.
func made(t *testing.T, n int) *pool.Pool {
	t.Helper()
	p, e := pool.New(n)
	if e != api.OK || p == nil {
		t.Fatalf("New(%d): %d", n, e)
	}
	return p
}

// look holds all that a pool tells against the book, and against P12.2; it asks of the given keys, and of all pages and some that aren't there.
func look(t *testing.T, p *pool.Pool, k *book, keys []int) {
	t.Helper()
	free, needed, idle := p.Counts()
	if wantIdle := len(k.row); idle != wantIdle || free+needed+idle != k.n || free < 0 || needed < 0 {
		t.Fatalf("Counts: %d, %d, %d of %d pages, %d idle ones", free, needed, idle, k.n, wantIdle)
	}
	count := 0
	for _, i := range append([]int{math.MinInt, -k.n, -2, -1, k.n, k.n + 1, 64, 1 << 32, math.MaxInt}, upTo(k.n)...) {
		_, sealed := k.keys[i]
		if i >= k.n && k.there(i) {
			t.Fatalf("the book has a page %d", i)
		}
		if p.Refs(i) != k.refs[i] || p.Open(i) != (k.refs[i] > 0 && !sealed) {
			t.Fatalf("page %d: Refs %d, Open %t; the book has %d refs, sealed %t", i, p.Refs(i), p.Open(i), k.refs[i], sealed)
		}
		if k.refs[i] > 0 {
			count++
		}
	}
	if needed != count {
		t.Fatalf("Counts: %d, %d, %d; the book has %d needed ones", free, needed, idle, count)
	}
	for _, key := range keys {
		i, ok := p.Find(key)
		if want, there := k.find(key); i != want || ok != there {
			t.Fatalf("Find(%d): %d, %t, not %d, %t", key, i, ok, want, there)
		}
		if ok && p.Open(i) {
			t.Fatalf("page %d is sealed, and open", i)
		}
	}
}

// upTo are the numbers from 0 on, below n.
func upTo(n int) []int {
	var l []int
	for i := range n {
		l = append(l, i)
	}
	return l
}

// drain takes pages until there are none left, and holds them against the book: free ones by their numbers, then the row of idle ones.
func drain(t *testing.T, p *pool.Pool, k *book) {
	t.Helper()
	for range k.n + 1 {
		got, want := ask(p, call{name: "Take"}), k.ask(call{name: "Take"})
		if got != want {
			t.Fatalf("Take: %v, not %v", got, want)
		}
		if want.e == api.ErrFull {
			return
		}
	}
	t.Fatalf("%d pages, and more to be taken", k.n)
}

// replayed is a pool, and a book, behind a row of calls.
func replayed(t *testing.T, n int, l []call) (*pool.Pool, *book) {
	t.Helper()
	p, k := made(t, n), newBook(n)
	for _, x := range l {
		if got, want := ask(p, x), k.ask(x); got != want {
			t.Fatalf("%d pages, %v: %v, not %v", n, x, got, want)
		}
	}
	return p, k
}

// P12.1, P12.2: every row of five calls of a pool of two pages.
func TestEveryRow(t *testing.T) {
	calls := []call{{name: "Take"}}
	for i := range 2 {
		calls = append(calls, call{"Hold", i, 0}, call{"Drop", i, 0}, call{"Forget", i, 0}, call{"Seal", i, 0}, call{"Seal", i, 5})
	}
	var walk func(l []call)
	walk = func(l []call) {
		p, k := replayed(t, 2, l)
		look(t, p, k, []int{-1, 0, 1, 5})
		drain(t, p, k)
		if t.Failed() || len(l) == 5 {
			return
		}
		for _, x := range calls {
			walk(append(slices.Clone(l), x))
		}
	}
	walk(nil)
}

// someCall is any call, of pages that are there and some that aren't.
func someCall(r *rand.Rand, n int, keys []int) call {
	names := []string{"Take", "Take", "Hold", "Seal", "Seal", "Seal", "Drop", "Drop", "Drop", "Forget"}
	x := call{name: names[r.Intn(len(names))], i: r.Intn(n), key: keys[r.Intn(len(keys))]}
	if r.Intn(20) == 0 {
		x.i = []int{math.MinInt, -1, n, n + 1, 64, math.MaxInt}[r.Intn(6)]
	}
	return x
}

// P12.1, P12.2: long rows of calls, of pools of many sizes, and what they tell behind each.
func TestLongRows(t *testing.T) {
	for _, n := range []int{1, 2, 3, 5, 16, 63, 64} {
		for seed := range int64(4) {
			r := rand.New(rand.NewSource(seed))
			keys := append([]int{math.MinInt, -1, 0, math.MaxInt}, upTo(n)...)
			if seed%2 == 1 {
				keys = keys[:4]
			}
			p, k := made(t, n), newBook(n)
			var l []call
			for step := range 3000 {
				x := someCall(r, n, keys)
				l = append(l, x)
				if got, want := ask(p, x), k.ask(x); got != want {
					t.Fatalf("%d pages, seed %d, call %d, %v: %v, not %v", n, seed, step, x, got, want)
				}
				look(t, p, k, append(keys, 1000, -1000))
				if step%300 == 299 {
					drain(t, p, k)
					p, k = replayed(t, n, l)
				}
			}
		}
	}
}

// P12.1: a call with an error changes nothing: a pool without those calls is the same.
func TestErrorsChangeNothing(t *testing.T) {
	for _, n := range []int{1, 2, 3, 8} {
		for seed := range int64(20) {
			r := rand.New(rand.NewSource(seed))
			keys := upTo(n)
			p, k := made(t, n), newBook(n)
			var right []call
			wrong := 0
			for range 200 {
				x := someCall(r, n, keys)
				if a := ask(p, x); a.e == api.OK {
					right = append(right, x)
				} else {
					wrong++
					if a != (answer{e: a.e}) {
						t.Fatalf("%v: %v beside an error", x, a)
					}
				}
			}
			if wrong == 0 {
				t.Fatalf("%d pages: no call with an error", n)
			}
			_, k = replayed(t, n, right)
			look(t, p, k, keys)
			drain(t, p, k)
		}
	}
}

// P12.1: New at its ends.
func TestNew(t *testing.T) {
	for _, n := range []int{math.MinInt, math.MinInt32, -64, -1, 0} {
		if p, e := pool.New(n); p != nil || e != api.ErrArg {
			t.Errorf("New(%d): %v, %d", n, p, e)
		}
	}
	for _, n := range []int{65, 66, 128, math.MaxInt32, 1 << 32, 1<<32 + 1, math.MaxInt} {
		if p, e := pool.New(n); p != nil || e != api.ErrBig {
			t.Errorf("New(%d): %v, %d", n, p, e)
		}
	}
	for n := 1; n <= api.MaxPages; n++ {
		p := made(t, n)
		if free, needed, idle := p.Counts(); free != n || needed != 0 || idle != 0 {
			t.Errorf("New(%d): Counts %d, %d, %d", n, free, needed, idle)
		}
		look(t, p, newBook(n), []int{-1, 0, 1})
		drain(t, p, newBook(n))
	}
}

// errs asks for calls, one behind the other, and holds their errors against what is wanted.
func errs(t *testing.T, p *pool.Pool, l []call, want ...api.Errno) {
	t.Helper()
	for i, x := range l {
		if got := ask(p, x); got.e != want[i] {
			t.Errorf("call %d, %v: %d, not %d", i, x, got.e, want[i])
		}
	}
}

// P12.1: numbers of pages below 0, 0, n - 1 and n, and free pages.
func TestNoPage(t *testing.T) {
	for _, n := range []int{1, 2, 64} {
		p := made(t, n)
		for _, i := range append([]int{math.MinInt, -n, -1, n, n + 1, 64, 65, 1 << 32, math.MaxInt}, upTo(n)...) {
			errs(t, p, []call{{"Hold", i, 0}, {"Seal", i, 0}, {"Drop", i, 0}, {"Forget", i, 0}}, api.ErrNone, api.ErrNone, api.ErrNone, api.ErrNone)
			if p.Open(i) || p.Refs(i) != 0 {
				t.Errorf("page %d of %d free ones: Open %t, Refs %d", i, n, p.Open(i), p.Refs(i))
			}
		}
		for range n {
			p.Take()
		}
		for _, i := range []int{math.MinInt, -n, -1, n, n + 1, 1 << 32, math.MaxInt} {
			errs(t, p, []call{{"Hold", i, 0}, {"Seal", i, 0}, {"Drop", i, 0}, {"Forget", i, 0}}, api.ErrNone, api.ErrNone, api.ErrNone, api.ErrNone)
			if p.Open(i) || p.Refs(i) != 0 {
				t.Errorf("page %d of %d needed ones: Open %t, Refs %d", i, n, p.Open(i), p.Refs(i))
			}
		}
		for _, i := range []int{0, n - 1} {
			errs(t, p, []call{{"Hold", i, 0}, {"Drop", i, 0}, {"Forget", i, 0}, {"Seal", i, i}, {"Drop", i, 0}, {"Forget", i, 0}}, api.OK, api.OK, api.ErrNone, api.OK, api.OK, api.OK)
			if n == 1 {
				break
			}
		}
	}
}

// P12.1: MaxRefs refs and one more, of pages that are sealed and of others.
func TestMostRefs(t *testing.T) {
	if pool.MaxRefs != 1000 {
		t.Fatalf("MaxRefs is %d", pool.MaxRefs)
	}
	for _, sealed := range []bool{false, true} {
		p := made(t, 2)
		p.Take()
		if sealed {
			p.Seal(0, 9)
		}
		for k := 2; k <= 1000; k++ {
			if e := p.Hold(0); e != api.OK || p.Refs(0) != k {
				t.Fatalf("Hold: %d, Refs %d", e, p.Refs(0))
			}
		}
		for range 3 {
			if e := p.Hold(0); e != api.ErrBig || p.Refs(0) != 1000 || p.Open(0) == sealed {
				t.Fatalf("one more: %d, Refs %d", e, p.Refs(0))
			}
		}
		if e := p.Hold(1); e != api.ErrNone {
			t.Errorf("another page: %d", e)
		}
		errs(t, p, []call{{"Drop", 0, 0}, {"Hold", 0, 0}, {"Hold", 0, 0}}, api.OK, api.OK, api.ErrBig)
		for k := 999; k >= 0; k-- {
			if _, needed, _ := p.Counts(); needed != 1 {
				t.Fatalf("with %d refs: %d needed", k+1, needed)
			}
			if e := p.Drop(0); e != api.OK || p.Refs(0) != k {
				t.Fatalf("Drop: %d, Refs %d", e, p.Refs(0))
			}
		}
		if e := p.Drop(0); e != api.ErrNone || p.Refs(0) != 0 {
			t.Errorf("Drop of none: %d, Refs %d", e, p.Refs(0))
		}
		free, needed, idle := p.Counts()
		if _, ok := p.Find(9); ok != sealed || needed != 0 || free+idle != 2 || (idle == 1) != sealed {
			t.Errorf("Counts: %d, %d, %d; found %t", free, needed, idle, ok)
		}
	}
}

// P12.1, P12.2: one key sealed twice, a page sealed twice, and keys that are gone.
func TestKeys(t *testing.T) {
	for _, key := range []int{math.MinInt, -1, 0, 1, 7, 64, math.MaxInt} {
		p := made(t, 3)
		p.Take()
		p.Take()
		if i, ok := p.Find(key); i != 0 || ok {
			t.Errorf("Find(%d) of none: %d, %t", key, i, ok)
		}
		errs(t, p, []call{{"Seal", 2, key}, {"Seal", 1, key}, {"Seal", 1, key}, {"Seal", 1, key ^ 1}, {"Seal", 0, key}, {"Seal", 2, key}}, api.ErrNone, api.OK, api.ErrThere, api.ErrThere, api.ErrThere, api.ErrNone)
		if i, ok := p.Find(key); i != 1 || !ok || p.Open(1) || !p.Open(0) {
			t.Errorf("Find(%d): %d, %t", key, i, ok)
		}
		if _, ok := p.Find(key ^ 1); ok {
			t.Errorf("Find(%d) of a key that was refused", key^1)
		}
		errs(t, p, []call{{"Drop", 1, 0}, {"Seal", 0, key}, {"Seal", 1, key ^ 1}, {"Seal", 1, key}}, api.OK, api.ErrThere, api.ErrThere, api.ErrThere)
		if i, ok := p.Find(key); i != 1 || !ok || p.Open(1) {
			t.Errorf("Find(%d) of an idle page: %d, %t", key, i, ok)
		}
		errs(t, p, []call{{"Forget", 1, 0}, {"Seal", 1, key}, {"Seal", 0, key}}, api.OK, api.ErrNone, api.OK)
		if i, ok := p.Find(key); i != 0 || !ok {
			t.Errorf("Find(%d) of another page: %d, %t", key, i, ok)
		}
	}
}

// P12.1: the key of a page that had to go is free again, and so is that of a page that was forgotten.
func TestKeysAgain(t *testing.T) {
	p := made(t, 2)
	errs(t, p, []call{{"Take", 0, 0}, {"Take", 0, 0}, {"Seal", 0, 5}, {"Seal", 1, 6}, {"Drop", 0, 0}}, 0, 0, 0, 0, 0)
	if a := ask(p, call{name: "Take"}); a != (answer{0, 5, true, api.OK}) || !p.Open(0) || p.Refs(0) != 1 {
		t.Errorf("Take: %v", a)
	}
	errs(t, p, []call{{"Seal", 0, 6}, {"Seal", 0, 5}, {"Drop", 1, 0}, {"Forget", 1, 0}, {"Take", 0, 0}, {"Seal", 1, 5}, {"Seal", 1, 6}}, api.ErrThere, api.OK, api.OK, api.OK, api.OK, api.ErrThere, api.OK)
}

// P12.1: a page that nobody needs, and that isn't sealed, is free again; the least number is taken first.
func TestLeastFirst(t *testing.T) {
	p := made(t, 5)
	for i := range 5 {
		if a := ask(p, call{name: "Take"}); a != (answer{page: i}) {
			t.Fatalf("Take: %v", a)
		}
	}
	for _, i := range []int{3, 1, 4} {
		p.Drop(i)
		if p.Open(i) {
			t.Errorf("page %d is open", i)
		}
	}
	for _, i := range []int{1, 3, 4} {
		if a := ask(p, call{name: "Take"}); a != (answer{page: i}) {
			t.Errorf("Take: %v, not %d", a, i)
		}
	}
	if a := ask(p, call{name: "Take"}); a != (answer{e: api.ErrFull}) {
		t.Errorf("Take: %v", a)
	}
}

// idles is a pool of n idle pages, page i with key i + 100, that became idle in a given order.
func idles(t *testing.T, n int, order []int) *pool.Pool {
	t.Helper()
	p := made(t, n)
	for i := range n {
		p.Take()
		p.Seal(i, i+100)
	}
	for _, i := range order {
		if e := p.Drop(i); e != api.OK {
			t.Fatalf("Drop(%d): %d", i, e)
		}
	}
	return p
}

// P12.1: the page that stands first in the row goes first, with its key; one that was held, and dropped again, stands last.
func TestRow(t *testing.T) {
	order := []int{3, 0, 4, 1, 2}
	p := idles(t, 5, order)
	for _, i := range order {
		if a := ask(p, call{name: "Take"}); a != (answer{i, i + 100, true, api.OK}) {
			t.Errorf("Take: %v, not %d", a, i)
		}
	}
	for _, held := range order {
		p, want := idles(t, 5, order), slices.Clone(order)
		errs(t, p, []call{{"Hold", held, 0}, {"Hold", held, 0}, {"Drop", held, 0}}, 0, 0, 0)
		if free, needed, idle := p.Counts(); free != 0 || needed != 1 || idle != 4 || p.Open(held) {
			t.Errorf("Counts: %d, %d, %d", free, needed, idle)
		}
		p.Drop(held)
		want = append(slices.DeleteFunc(want, func(i int) bool { return i == held }), held)
		for _, i := range want {
			if a := ask(p, call{name: "Take"}); a != (answer{i, i + 100, true, api.OK}) {
				t.Errorf("behind Hold and Drop of %d, Take: %v, not %d", held, a, i)
			}
		}
	}
}

// P12.1: a page that is forgotten leaves the row, and is taken ahead of idle ones.
func TestForget(t *testing.T) {
	order := []int{3, 0, 4, 1, 2}
	for _, gone := range order {
		p := idles(t, 5, order)
		errs(t, p, []call{{"Forget", gone, 0}, {"Forget", gone, 0}, {"Hold", gone, 0}, {"Drop", gone, 0}}, api.OK, api.ErrNone, api.ErrNone, api.ErrNone)
		if _, ok := p.Find(gone + 100); ok {
			t.Errorf("page %d is found", gone)
		}
		if free, needed, idle := p.Counts(); free != 1 || needed != 0 || idle != 4 {
			t.Errorf("Counts: %d, %d, %d", free, needed, idle)
		}
		if a := ask(p, call{name: "Take"}); a != (answer{page: gone}) {
			t.Errorf("Take: %v, not %d", a, gone)
		}
		for _, i := range order {
			if i == gone {
				continue
			}
			if a := ask(p, call{name: "Take"}); a != (answer{i, i + 100, true, api.OK}) {
				t.Errorf("Take: %v, not %d", a, i)
			}
		}
	}
}

// P12.1: a page that is needed, sealed or not, isn't forgotten; one that had to go may be sealed anew.
func TestForgetNeeded(t *testing.T) {
	p := made(t, 1)
	errs(t, p, []call{{"Forget", 0, 0}, {"Take", 0, 0}, {"Forget", 0, 0}, {"Seal", 0, 3}, {"Forget", 0, 0}, {"Hold", 0, 0}, {"Drop", 0, 0}, {"Forget", 0, 0}, {"Drop", 0, 0}, {"Drop", 0, 0}, {"Forget", 0, 0}}, api.ErrNone, api.OK, api.ErrNone, api.OK, api.ErrNone, api.OK, api.OK, api.ErrNone, api.OK, api.ErrNone, api.OK)
	if free, needed, idle := p.Counts(); free != 1 || needed != 0 || idle != 0 {
		t.Errorf("Counts: %d, %d, %d", free, needed, idle)
	}
}

// P12.3: two pools side by side are apart.
func TestTwoPools(t *testing.T) {
	for seed := range int64(10) {
		r := rand.New(rand.NewSource(seed))
		p, q := made(t, 3), made(t, 3)
		k, j := newBook(3), newBook(3)
		for range 300 {
			x := someCall(r, 3, []int{1, 2, 3})
			if r.Intn(2) == 0 {
				if got, want := ask(p, x), k.ask(x); got != want {
					t.Fatalf("%v: %v, not %v", x, got, want)
				}
			} else if got, want := ask(q, x), j.ask(x); got != want {
				t.Fatalf("%v: %v, not %v", x, got, want)
			}
			look(t, p, k, []int{1, 2, 3})
			look(t, q, j, []int{1, 2, 3})
		}
		drain(t, p, k)
		look(t, q, j, []int{1, 2, 3})
		drain(t, q, j)
	}
}

// P12.1: what is only asked changes nothing.
func TestAskingChangesNothing(t *testing.T) {
	order := []int{1, 2, 0}
	p := idles(t, 3, order)
	for range 3 {
		for i := -2; i < 5; i++ {
			p.Open(i)
			p.Refs(i)
			p.Find(i + 100)
			p.Counts()
		}
	}
	for _, i := range order {
		if a := ask(p, call{name: "Take"}); a != (answer{i, i + 100, true, api.OK}) {
			t.Errorf("Take: %v, not %d", a, i)
		}
	}
}

// The chapter's example.
func TestExample(t *testing.T) {
	p := made(t, 1)
	if a := ask(p, call{name: "Take"}); a != (answer{}) {
		t.Errorf("Take: %v", a)
	}
	if a := ask(p, call{name: "Take"}); a != (answer{e: api.ErrFull}) {
		t.Errorf("Take of none: %v", a)
	}
	errs(t, p, []call{{"Seal", 0, 7}, {"Drop", 0, 0}}, api.OK, api.OK)
	if free, needed, idle := p.Counts(); free != 0 || needed != 0 || idle != 1 {
		t.Errorf("Counts: %d, %d, %d", free, needed, idle)
	}
	if i, ok := p.Find(7); i != 0 || !ok {
		t.Errorf("Find: %d, %t", i, ok)
	}
	if a := ask(p, call{name: "Take"}); a != (answer{0, 7, true, api.OK}) {
		t.Errorf("Take: %v", a)
	}
	if i, ok := p.Find(7); i != 0 || ok {
		t.Errorf("Find: %d, %t", i, ok)
	}
}
