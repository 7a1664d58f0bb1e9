package fleet

import (
	"tiller/net"
	"tiller/wire"
)

// Parcels are all that is on its way, for tests of what nodes say.
func Parcels(w *World) []net.Parcel {
	var l []net.Parcel
	for i := range w.net.Len() {
		p, _ := w.net.Look(i)
		l = append(l, p)
	}
	return l
}

// Put lays a message on its way.
func Put(w *World, m wire.Msg) {
	frame, _ := wire.Write(m)
	w.net.Send(m.To, frame)
}

// Kept is how many transfers and works a fleet's nodes have.
func Kept(w *World) (int, int) {
	transfers, works := 0, 0
	for _, k := range w.workers {
		transfers += len(k.transfers)
	}
	for _, s := range w.speakers {
		works += len(s.works)
	}
	return transfers, works
}

// Epoch is the one by which a node believes in a place.
func Epoch(w *World, i, place int) (int, bool) {
	return w.workers[i-1].believes(w.clocks.Now(i), place)
}
