package net_test

import (
	"math"
	"math/rand"
	"slices"
	"strings"
	"testing"

	"tiller/api"
	"tiller/net"
)

// call is one call of a net that may change it.
type call struct {
	name  string
	i     int // a place, or a node
	frame string
	at    int
	bits  uint32
}

// answer is what such a call answers; fields that it has not are zero.
type answer struct {
	parcel net.Parcel
	count  int
	e      api.Errno
}

// ask calls a net.
func ask(n *net.Net, c call) answer {
	switch c.name {
	case "Send":
		return answer{e: n.Send(c.i, c.frame)}
	case "Take":
		p, e := n.Take(c.i)
		return answer{parcel: p, e: e}
	case "Lose":
		return answer{e: n.Lose(c.i)}
	case "Move":
		return answer{e: n.Move(c.i)}
	case "Turn":
		return answer{e: n.Turn(c.i, c.at, c.bits)}
	}
	return answer{count: n.Cut(c.i)}
}

// bitsOf is a frame as a row of 0 and 1, the lowest bit of each byte first.
func bitsOf(frame string) []byte {
	var l []byte
	for _, b := range []byte(frame) {
		for range 8 {
			l = append(l, b%2)
			b /= 2
		}
	}
	return l
}

// frameOf is the frame of such a row.
func frameOf(bits []byte) string {
	b := make([]byte, len(bits)/8)
	for i, bit := range bits {
		b[i/8] += bit << (i % 8)
	}
	return string(b)
}

// turn is a frame of which bits are turned, as the chapter says it.
func turn(frame string, at int, bits uint32) string {
	l := bitsOf(frame)
	for k, bit := range bitsOf(string([]byte{byte(bits), byte(bits >> 8), byte(bits >> 16), byte(bits >> 24)})) {
		if at+k < len(l) {
			l[at+k] ^= bit
		}
	}
	return frameOf(l)
}

// book is a net as the chapter tells it.
type book struct {
	row  []net.Parcel
	lost int
}

// send is Send of the book.
func (k *book) send(to int, frame string) api.Errno {
	switch {
	case !slices.Contains([]int{0, 1, 2, 3, 4, 5, 6, 7}, to):
		return api.ErrArg
	case len(frame) > 65536:
		return api.ErrBig
	case len(k.row) == 256:
		k.lost++
		return api.ErrFull
	}
	k.row = append(k.row, net.Parcel{To: to, Frame: frame})
	return api.OK
}

// cut is Cut of the book.
func (k *book) cut(to int) int {
	var left []net.Parcel
	for _, p := range k.row {
		if p.To != to {
			left = append(left, p)
		}
	}
	count := len(k.row) - len(left)
	k.row, k.lost = left, k.lost+count
	return count
}

// without is the row but for the parcel at a place.
func (k *book) without(i int) []net.Parcel {
	return append(slices.Clone(k.row[:i]), k.row[i+1:]...)
}

// ask calls the book.
func (k *book) ask(c call) answer {
	switch {
	case c.name == "Send":
		return answer{e: k.send(c.i, c.frame)}
	case c.name == "Cut":
		return answer{count: k.cut(c.i)}
	case c.i < 0 || c.i >= len(k.row):
		return answer{e: api.ErrNone}
	}
	p := k.row[c.i]
	switch c.name {
	case "Take":
		k.row = k.without(c.i)
		return answer{parcel: p}
	case "Lose":
		k.row = k.without(c.i)
		k.lost++
	case "Move":
		k.row = append(k.without(c.i), p)
	case "Turn":
		if c.at < 0 || c.at >= 8*len(p.Frame) {
			return answer{e: api.ErrArg}
		}
		if p.Turned {
			return answer{e: api.ErrThere}
		}
		k.row[c.i] = net.Parcel{To: p.To, Frame: turn(p.Frame, c.at, c.bits), Turned: true}
	}
	return answer{}
}

// look holds what a net tells against the book: its parcels in their order, Len, Lost, and the places that there aren't.
func look(t *testing.T, n *net.Net, k *book) {
	t.Helper()
	if n.Len() != len(k.row) || n.Lost() != k.lost {
		t.Fatalf("%d on their way, %d lost, not %d, %d", n.Len(), n.Lost(), len(k.row), k.lost)
	}
	for i, want := range k.row {
		if p, e := n.Look(i); p != want || e != api.OK {
			t.Fatalf("Look(%d): %.80v, %v, not %.80v", i, p, e, want)
		}
	}
	for _, i := range []int{math.MinInt, -1, len(k.row), len(k.row) + 1, math.MaxInt} {
		if p, e := n.Look(i); p != (net.Parcel{}) || e != api.ErrNone {
			t.Fatalf("Look(%d): %.80v, %v", i, p, e)
		}
	}
}

// both calls a net and the book, holds their answers and then all that they tell against each other, and tells the answer.
func both(t *testing.T, n *net.Net, k *book, c call) answer {
	t.Helper()
	got, want := ask(n, c), k.ask(c)
	if got != want {
		t.Fatalf("%.80v: %.80v, not %.80v", c, got, want)
	}
	look(t, n, k)
	return got
}

// P16.1: the zero Net has nothing.
func TestZero(t *testing.T) {
	var n net.Net
	k := &book{}
	look(t, &n, k)
	for _, name := range []string{"Take", "Lose", "Move", "Turn", "Cut"} {
		for _, i := range []int{math.MinInt, -1, 0, 1, 7, 8, math.MaxInt} {
			both(t, &n, k, call{name: name, i: i, bits: 1})
		}
	}
	if n.Len() != 0 || n.Lost() != 0 {
		t.Errorf("%d, %d", n.Len(), n.Lost())
	}
}

// P16.1: every row of five calls of some.
func TestEveryRow(t *testing.T) {
	calls := []call{
		{name: "Send", i: 0, frame: "ab"}, {name: "Send", i: 7, frame: "c"}, {name: "Send", i: 1}, {name: "Send", i: 8, frame: "d"},
		{name: "Take", i: 0}, {name: "Take", i: 1}, {name: "Lose", i: 0}, {name: "Lose", i: 1}, {name: "Move", i: 0}, {name: "Move", i: 1},
		{name: "Turn", i: 0, at: 7, bits: 3}, {name: "Turn", i: 1, at: 0, bits: 0x80000001}, {name: "Turn", i: 0, at: 8, bits: 0}, {name: "Cut", i: 0}, {name: "Cut", i: 7},
	}
	var walk func(done []call)
	walk = func(done []call) {
		var n net.Net
		k := &book{}
		for _, c := range done {
			if got, want := ask(&n, c), k.ask(c); got != want {
				t.Fatalf("%v: %v, not %v", done, got, want)
			}
		}
		look(t, &n, k)
		if len(done) == 5 {
			return
		}
		for _, c := range calls {
			walk(append(done, c))
		}
	}
	walk(nil)
}

// someCall is any call; most places are among those that there are.
func someCall(r *rand.Rand, k *book, sends int) call {
	if r.Intn(10) < sends {
		return call{name: "Send", i: r.Intn(10) - 1, frame: strings.Repeat(string([]byte{byte(r.Intn(256))}), r.Intn(5))}
	}
	c := call{name: []string{"Take", "Lose", "Move", "Turn", "Turn"}[r.Intn(5)], i: r.Intn(len(k.row)+2) - 1, at: r.Intn(36) - 2, bits: r.Uint32() >> r.Intn(32)}
	if r.Intn(20) == 0 {
		c = call{name: "Cut", i: r.Intn(10) - 1}
	}
	return c
}

// P16.1: long rows of any calls.
func TestManyCalls(t *testing.T) {
	for seed := range int64(60) {
		r := rand.New(rand.NewSource(seed))
		var n net.Net
		k := &book{}
		for range 300 {
			both(t, &n, k, someCall(r, k, 1+int(seed)%9))
		}
	}
}

// P16.1: Send: nodes at the ends and beyond them, frames as great as can be and greater; the errors in their order.
func TestSend(t *testing.T) {
	frames := map[int]string{}
	for _, size := range []int{0, 1, 65535, 65536, 65537, 65538, 200000} {
		frames[size] = strings.Repeat("z", size)
	}
	for _, full := range []bool{false, true} {
		for _, to := range []int{math.MinInt, -2, -1, 0, 1, 6, 7, 8, 9, 255, 256, math.MaxInt} {
			for size, frame := range frames {
				var n net.Net
				k := &book{}
				for full && len(k.row) < 256 {
					n.Send(3, "x")
					k.send(3, "x")
				}
				e := both(t, &n, k, call{name: "Send", i: to, frame: frame}).e
				want := api.OK
				switch {
				case to < 0 || to > 7:
					want = api.ErrArg
				case size > 65536:
					want = api.ErrBig
				case full:
					want = api.ErrFull
				}
				if e != want || want == api.ErrFull != (n.Lost() == 1) {
					t.Errorf("Send(%d, %d bytes): %v, %d lost, not %v", to, size, e, n.Lost(), want)
				}
			}
		}
	}
}

// P16.1: 255 and 256 on their way; what finds no room is lost; there is room again behind Take, Lose and Cut, not behind Move and Turn.
func TestFull(t *testing.T) {
	for _, c := range []call{{name: "Take", i: 255}, {name: "Take", i: 0}, {name: "Lose", i: 100}, {name: "Cut", i: 5}, {name: "Cut", i: 6}, {name: "Move", i: 3}, {name: "Turn", i: 4, bits: 1}} {
		var n net.Net
		k := &book{}
		for i := range 255 {
			both(t, &n, k, call{name: "Send", i: i % 6, frame: strings.Repeat("f", 1+i%3)})
		}
		if a := both(t, &n, k, call{name: "Send", i: 0, frame: "last"}); a.e != api.OK || n.Len() != 256 || n.Lost() != 0 {
			t.Fatalf("the last one: %v", a.e)
		}
		for lost := 1; lost <= 3; lost++ {
			if a := both(t, &n, k, call{name: "Send", i: 0, frame: "more"}); a.e != api.ErrFull || n.Len() != 256 || n.Lost() != lost {
				t.Fatalf("one more: %v, %d lost", a.e, n.Lost())
			}
		}
		both(t, &n, k, c)
		for range 60 {
			both(t, &n, k, call{name: "Send", i: 7, frame: "again"})
		}
	}
}

// P16.1: Take, Lose and Move at each place of rows of each length, below them and behind.
func TestPlaces(t *testing.T) {
	for _, length := range []int{0, 1, 2, 3, 7, 255, 256} {
		for _, i := range []int{math.MinInt, -256, -1, 0, 1, length / 2, length - 2, length - 1, length, length + 1, 256, math.MaxInt} {
			for _, name := range []string{"Take", "Lose", "Move"} {
				var n net.Net
				k := &book{}
				for j := range length {
					k.send(j%8, string([]byte{byte(j), 'x'}))
					n.Send(j%8, string([]byte{byte(j), 'x'}))
				}
				a := both(t, &n, k, call{name: name, i: i})
				if there := i >= 0 && i < length; there != (a.e == api.OK) || !there && a.e != api.ErrNone {
					t.Errorf("%s(%d) of %d: %v", name, i, length, a.e)
				}
				both(t, &n, k, call{name: name, i: i})
			}
		}
	}
}

// P16.1: Turn at each bit of short frames, below them and behind, of many bits, some of which reach behind the end.
func TestTurn(t *testing.T) {
	r := rand.New(rand.NewSource(1))
	for size := range 8 {
		b := make([]byte, size)
		r.Read(b)
		for at := -2; at < 8*size+2; at++ {
			words := []uint32{0, 1, 2, 3, 1 << 31, 1<<31 | 1, 0xff, 0xffff0000, math.MaxUint32}
			for k := range 32 {
				words = append(words, 1<<k, r.Uint32()>>k)
			}
			for _, bits := range words {
				var n net.Net
				k := &book{}
				for _, frame := range []string{"ahead", string(b), "behind"} {
					n.Send(2, frame)
					k.send(2, frame)
				}
				a := both(t, &n, k, call{name: "Turn", i: 1, at: at, bits: bits})
				if there := at >= 0 && at < 8*size; there != (a.e == api.OK) || !there && a.e != api.ErrArg {
					t.Fatalf("Turn at %d of %d bytes: %v", at, size, a.e)
				}
			}
		}
	}
}

// P16.1: Turn at the last bits of the greatest frame.
func TestTurnGreat(t *testing.T) {
	frame := strings.Repeat("\xa5", 65536)
	for _, at := range []int{math.MinInt, -1, 0, 1, 8*65536 - 33, 8*65536 - 32, 8*65536 - 31, 8*65536 - 1, 8 * 65536, math.MaxInt - 31, math.MaxInt} {
		var n net.Net
		k := &book{}
		n.Send(0, frame)
		k.send(0, frame)
		both(t, &n, k, call{name: "Turn", i: 0, at: at, bits: math.MaxUint32})
	}
}

// P16.1: of each parcel bits are turned but once, of bits 0, too, wherever it stands; the errors in their order.
func TestTurnTwice(t *testing.T) {
	for _, first := range []uint32{0, 1, math.MaxUint32} {
		for _, at := range []int{math.MinInt, -1, 0, 15, 16, math.MaxInt} {
			for _, i := range []int{-1, 0, 1, 2} {
				var n net.Net
				k := &book{}
				both(t, &n, k, call{name: "Send", i: 1, frame: "ab"})
				both(t, &n, k, call{name: "Send", i: 2, frame: "cd"})
				both(t, &n, k, call{name: "Turn", i: 0, at: 3, bits: first})
				want := api.OK
				switch {
				case i < 0 || i > 1:
					want = api.ErrNone
				case at < 0 || at > 15:
					want = api.ErrArg
				case i == 0:
					want = api.ErrThere
				}
				if a := both(t, &n, k, call{name: "Turn", i: i, at: at, bits: 5}); a.e != want {
					t.Errorf("Turn(%d, %d): %v, not %v", i, at, a.e, want)
				}
				both(t, &n, k, call{name: "Move", i: 0})
				if a := both(t, &n, k, call{name: "Turn", i: 1, at: 0, bits: 0}); a.e != api.ErrThere {
					t.Errorf("moved, and turned again: %v", a.e)
				}
				p, _ := n.Take(1)
				if !p.Turned {
					t.Error("taken, and not turned any more")
				}
				if n.Send(p.To, p.Frame) != api.OK || n.Turn(1, 0, 1) != api.OK {
					t.Error("a frame that is sent again was never turned")
				}
			}
		}
	}
}

// P16.1: Cut of a node that has none, some and all; of nodes that there aren't.
func TestCut(t *testing.T) {
	for _, row := range [][]int{nil, {0}, {7}, {0, 7}, {3, 3, 3}, {3, 0, 3}, {0, 3, 3, 7}, {1, 3, 1, 3, 1, 3}, {3, 1, 1, 3}} {
		for _, to := range []int{math.MinInt, -1, 0, 1, 3, 7, 8, math.MaxInt} {
			var n net.Net
			k := &book{}
			want := 0
			for j, node := range row {
				both(t, &n, k, call{name: "Send", i: node, frame: string([]byte{byte(j)})})
				if node == to {
					want++
				}
			}
			if a := both(t, &n, k, call{name: "Cut", i: to}); a.count != want || n.Lost() != want || n.Len() != len(row)-want {
				t.Errorf("Cut(%d) of %v: %d, %d lost", to, row, a.count, n.Lost())
			}
			if a := both(t, &n, k, call{name: "Cut", i: to}); a.count != 0 || n.Lost() != want {
				t.Errorf("Cut(%d) of %v again: %d", to, row, a.count)
			}
		}
	}
	var n net.Net
	k := &book{}
	for range 257 {
		n.Send(4, "x")
		k.send(4, "x")
	}
	if a := both(t, &n, k, call{name: "Cut", i: 4}); a.count != 256 || n.Lost() != 257 || n.Len() != 0 {
		t.Errorf("Cut of all: %d, %d lost", a.count, n.Lost())
	}
}

// The chapter's example.
func TestExample(t *testing.T) {
	var n net.Net
	if n.Send(1, "ab") != api.OK || n.Send(2, "c") != api.OK || n.Move(0) != api.OK {
		t.Fatal("sent and moved")
	}
	if p, e := n.Take(0); p != (net.Parcel{To: 2, Frame: "c"}) || e != api.OK {
		t.Errorf("Take: %v, %v", p, e)
	}
	if e := n.Turn(0, 0, 1); e != api.OK {
		t.Errorf("Turn: %v", e)
	}
	if p, e := n.Look(0); p != (net.Parcel{To: 1, Frame: "`b", Turned: true}) || e != api.OK {
		t.Errorf("Look: %v, %v", p, e)
	}
	if e := n.Turn(0, 0, 1); e != api.ErrThere {
		t.Errorf("again: %v", e)
	}
}
