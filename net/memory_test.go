package net_test

import (
	"math/rand"
	"strings"
	"testing"
	"unsafe"

	"tiller/net"
)

// P16.2: a change of a parcel that was answered changes no net.
func TestAnswersApart(t *testing.T) {
	var n net.Net
	k := &book{}
	for i := range 5 {
		both(t, &n, k, call{name: "Send", i: i, frame: "frame"})
	}
	for i := range 5 {
		p, _ := n.Look(i)
		p.To, p.Frame, p.Turned = 7, "another", true
		look(t, &n, k)
	}
	taken, _ := n.Take(2)
	k.ask(call{name: "Take", i: 2})
	both(t, &n, k, call{name: "Turn", i: 2, at: 3, bits: 9})
	both(t, &n, k, call{name: "Send", i: 6, frame: "new"})
	if taken != (net.Parcel{To: 2, Frame: "frame"}) {
		t.Errorf("later calls changed an answer: %v", taken)
	}
}

// shares tells whether two texts lie in the same memory.
func shares(a, b string) bool {
	x, y := uintptr(unsafe.Pointer(unsafe.StringData(a))), uintptr(unsafe.Pointer(unsafe.StringData(b)))
	return x < y+uintptr(len(b)) && y < x+uintptr(len(a))
}

// P16.2: a frame that is answered lies neither in what was sent nor in another answer, so that a net keeps no more than its frames.
func TestFramesApart(t *testing.T) {
	text := strings.Repeat("123456789", 1000)
	for _, bits := range []uint32{0, 5} {
		var n net.Net
		n.Send(1, text[100:200])
		first, _ := n.Look(0)
		then, _ := n.Look(0)
		n.Turn(0, 0, bits)
		turned, _ := n.Look(0)
		n.Move(0)
		taken, _ := n.Take(0)
		l := []string{text, first.Frame, then.Frame, turned.Frame, taken.Frame}
		for i := range l {
			for j := range i {
				if shares(l[i], l[j]) {
					t.Errorf("%d and %d share memory", i, j)
				}
			}
		}
		if first.Frame != text[100:200] || first.Turned || !turned.Turned {
			t.Errorf("%v, %v", first, turned)
		}
	}
	var n net.Net
	n.Send(1, text)
	n.Send(1, text)
	a, _ := n.Take(0)
	b, _ := n.Take(0)
	if shares(a.Frame, text) || shares(b.Frame, text) || shares(a.Frame, b.Frame) {
		t.Error("taken frames share memory")
	}
}

// P16.2: two nets side by side are apart.
func TestTwoNets(t *testing.T) {
	for seed := range int64(10) {
		r := rand.New(rand.NewSource(seed))
		var x, y net.Net
		k, j := &book{}, &book{}
		for range 200 {
			if r.Intn(2) == 0 {
				both(t, &x, k, someCall(r, k, 5))
			} else {
				both(t, &y, j, someCall(r, j, 5))
			}
			look(t, &x, k)
			look(t, &y, j)
		}
	}
}
