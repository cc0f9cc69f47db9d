package gate_test

import (
	"slices"
	"testing"
	"unsafe"

	"joust/api"
	"joust/gate"
)

// filled is a gate in which so many intents wait, and the list that Take will answer.
func filled(t *testing.T, g *gate.Gate, n, throttle int) []api.Intent {
	t.Helper()
	var want []api.Intent
	for i := range n {
		player := n - 1 - i
		wantOffer(t, g, player, api.Command{Throttle: throttle, Turn: i % 9}, api.OK)
		want = append(want, api.Intent{Player: i, Throttle: throttle, Turn: player % 9})
	}
	return want
}

// spoil writes over a list, its spare room too, and lengthens it.
func spoil(list []api.Intent) []api.Intent {
	for i := range list[:cap(list)] {
		list[:cap(list)][i] = api.Intent{Player: -9, Throttle: 999, Turn: 99}
	}
	return append(list, api.Intent{Player: -8}, api.Intent{Player: -7})
}

// P18.5 (R11): what Take answered may be written over and lengthened: no later answer tells of it, of this gate or another.
func TestTakenMayBeWrittenOver(t *testing.T) {
	g, h := gate.New(), gate.New()
	for n := range 40 {
		want := filled(t, g, n, n)
		beside := filled(t, h, n, -n)
		taken := g.Take()
		if !slices.Equal(taken, want) {
			t.Fatalf("Take: %+v, want %+v", taken, want)
		}
		// While the next ones wait, the list of the last Take is spoilt.
		next := filled(t, g, n, n+1)
		spoil(taken)
		spoil(taken[:0])
		wantWaits(t, g, -9, false)
		wantWaits(t, g, -8, false)
		wantTake(t, g, next...)
		wantTake(t, h, beside...)
	}
}

// P18.5 (R11): what Take answered changes by no later call.
func TestTakenStays(t *testing.T) {
	g := gate.New()
	var lists, wants [][]api.Intent
	for n := range 40 {
		want := filled(t, g, n, n)
		lists, wants = append(lists, g.Take()), append(wants, want)
		filled(t, g, 40-n, -n)
		g.Offer(0, api.Command{Throttle: 50})
		g.Drop(n / 2)
		g.Waits(n)
		spoil(g.Take())
		for k, list := range lists {
			if !slices.Equal(list, wants[k]) {
				t.Fatalf("list %d of Take has become %+v", k, list)
			}
		}
	}
}

// P18.5 (R11): no two lists of Take have memory in common, their spare room neither.
func TestTakenIsNew(t *testing.T) {
	type room struct{ from, to uintptr }
	var kept [][]api.Intent
	var rooms []room
	g, h := gate.New(), gate.New()
	for n := range 40 {
		for _, x := range []*gate.Gate{g, h} {
			filled(t, x, n%20, n)
			list := x.Take()
			kept = append(kept, list)
			from := uintptr(unsafe.Pointer(unsafe.SliceData(list)))
			if cap(list) > 0 {
				rooms = append(rooms, room{from, from + uintptr(cap(list))*unsafe.Sizeof(api.Intent{})})
			}
		}
	}
	for i, a := range rooms {
		for _, b := range rooms[:i] {
			if a.from < b.to && b.from < a.to {
				t.Fatal("two lists of Take share memory")
			}
		}
	}
	if len(kept) != 80 || len(rooms) < 70 {
		t.Fatalf("%d lists, %d with room", len(kept), len(rooms))
	}
}
