package grid_test

import (
	"math"
	"slices"
	"testing"

	"joust/api"
	"joust/grid"
)

// places are some of any: about 0, about the borders of cells, both ends.
var places = []api.Vec{
	at(0, 0), at(1, -1), at(-1, 1), at(-1, -1), at(65535, 65536), at(65536, -65536), at(-65536, -65537), at(1<<40, -1<<40), at(-1<<40-1, 1<<40+1),
	at(least, least), at(least, greatest), at(greatest, least), at(greatest, greatest), at(least+1, 0), at(0, greatest-1),
}

// numbers are some of any ids: about 0, those alike in few bits, both ends.
var numbers = []int{math.MinInt, math.MinInt + 1, -1 << 32, math.MinInt32, -256, -2, -1, 0, 1, 2, 255, 256, math.MaxInt32, 1 << 32, 1<<32 + 1, math.MaxInt - 1, math.MaxInt}

// P20.2: any id at any place: it is there, alone, and goes again.
func TestPutOne(t *testing.T) {
	for _, side := range sides {
		g := made(t, side)
		for _, id := range numbers {
			for _, p := range places {
				g.Put(id, p)
				wantLen(t, g, 1)
				wantAt(t, g, id, p, true)
				wantAt(t, g, id+1, api.Vec{}, false)
				wantNear(t, g, p, 0, id)
				wantDelete(t, g, id+1, false)
				wantLen(t, g, 1)
				wantDelete(t, g, id, true)
				wantNear(t, g, p, 0)
				wantNothing(t, g)
			}
		}
	}
}

// P20.2: all of them at once; Len behind each call.
func TestPutAll(t *testing.T) {
	everySide(t, func(t *testing.T, g *grid.Grid, others int) {
		for i, id := range numbers {
			g.Put(id, places[i%len(places)])
			wantLen(t, g, others+i+1)
		}
		for i, id := range numbers {
			wantAt(t, g, id, places[i%len(places)], true)
		}
		for i, id := range numbers {
			wantAt(t, g, id, places[i%len(places)], true)
			wantDelete(t, g, id, true)
			wantLen(t, g, others+len(numbers)-i-1)
			wantAt(t, g, id, api.Vec{}, false)
			wantDelete(t, g, id, false)
			wantLen(t, g, others+len(numbers)-i-1)
			for k, other := range numbers[i+1:] {
				wantAt(t, g, other, places[(i+1+k)%len(places)], true)
			}
		}
	})
}

// P20.2: a thing that is put again has one place only: the same one, another one of the same cell, of the next cell, and of one far away.
func TestPutAgain(t *testing.T) {
	everySide(t, func(t *testing.T, g *grid.Grid, others int) {
		g.Put(4, at(10, 10))
		g.Put(6, at(10, 10))
		was := at(10, 10)
		for _, p := range []api.Vec{at(10, 10), at(11, 10), at(11, 9), at(-1, 9), at(65536, 9), at(greatest, least), at(least, greatest), at(10, 10), at(-10, -10), at(-10, -10)} {
			g.Put(4, p)
			wantLen(t, g, others+2)
			wantAt(t, g, 4, p, true)
			wantAt(t, g, 6, at(10, 10), true)
			for _, q := range []api.Vec{was, p} {
				var want []int
				if q == p {
					want = append(want, 4)
				}
				if q == at(10, 10) {
					want = append(want, 6)
				}
				wantNear(t, g, q, 0, want...)
				wantNearest(t, g, q, 0, 3, want...)
			}
			was = p
		}
		wantDelete(t, g, 4, true)
		wantNear(t, g, was, 5)
		wantLen(t, g, others+1)
	})
}

// P20.2: one that was deleted comes again where it is put, and not where it was.
func TestPutBehindDelete(t *testing.T) {
	everySide(t, func(t *testing.T, g *grid.Grid, others int) {
		g.Put(1, at(5, 5))
		g.Put(2, at(5, 5))
		wantDelete(t, g, 1, true)
		wantNear(t, g, at(5, 5), 0, 2)
		g.Put(1, at(-5, 5))
		wantAt(t, g, 1, at(-5, 5), true)
		wantNear(t, g, at(5, 5), 0, 2)
		wantNear(t, g, at(-5, 5), 0, 1)
		wantNear(t, g, at(0, 5), 5, 1, 2)
		wantLen(t, g, others+2)
	})
}

// P20.2: things of one place, taken out from the front, from the back, from the middle, and all of them: the others stay.
func TestDeleteInAnyOrder(t *testing.T) {
	const n = 6
	for _, side := range sides {
		for number := range n * n * n {
			g := made(t, side)
			var want []int
			for id := range n {
				g.Put(id, at(-3, -3))
				want = append(want, id)
			}
			for _, id := range []int{number % n, number / n % n, number / n / n} {
				k := slices.Index(want, id)
				wantDelete(t, g, id, k >= 0)
				if k >= 0 {
					want = slices.Delete(want, k, k+1)
				}
				wantLen(t, g, len(want))
				wantNear(t, g, at(-3, -3), 0, want...)
				wantNear(t, g, at(-3, -3), greatest, want...)
				for _, id := range want {
					wantAt(t, g, id, at(-3, -3), true)
				}
			}
		}
	}
}

// P20.2: two grids have nothing to do with one another.
func TestGridsApart(t *testing.T) {
	g, h := made(t, 16), made(t, 16)
	g.Put(1, at(1, 1))
	wantNothing(t, h)
	h.Put(1, at(2, 2))
	h.Put(2, at(1, 1))
	wantLen(t, g, 1)
	wantAt(t, g, 1, at(1, 1), true)
	wantNear(t, g, at(1, 1), 9, 1)
	wantDelete(t, g, 2, false)
	wantDelete(t, g, 1, true)
	wantNear(t, h, at(1, 1), 9, 1, 2)
}
