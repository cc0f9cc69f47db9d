package grid_test

import (
	"math"
	"slices"
	"testing"

	"joust/api"
	"joust/grid"
)

// P20.3: r 0 has things at just that place, r below 0 none, whatever lies there.
func TestNearNothing(t *testing.T) {
	everySide(t, func(t *testing.T, g *grid.Grid, others int) {
		for i, p := range places {
			g.Put(2*i, p)
			g.Put(-i-1, p)
		}
		for i, p := range places {
			wantNear(t, g, p, 0, -i-1, 2*i)
			wantNearest(t, g, p, 0, 9, -i-1, 2*i)
			for _, r := range []int64{-1, -2, -65536, -1 << 32, least + 1, least} {
				wantNear(t, g, p, r)
				wantNearest(t, g, p, r, 9)
			}
		}
		wantNear(t, g, at(0, 1), 0)
		wantNear(t, g, at(greatest-1, greatest), 0)
	})
}

// P20.3: at just r away and one farther, along both parts, both ways, and aslant; from places on both sides of 0 and of cells' borders.
func TestNearAtTheEdge(t *testing.T) {
	everySide(t, func(t *testing.T, g *grid.Grid, others int) {
		for _, p := range []api.Vec{at(0, 0), at(-1, -1), at(65535, -65536), at(-65537, 65536), at(3, 1<<40), at(-1<<40, -1<<40+1)} {
			for _, k := range []int64{1, 2, 13, 65536, 400000000} {
				g.Put(1, at(p.X+5*k, p.Y))
				g.Put(2, at(p.X-5*k, p.Y))
				g.Put(3, at(p.X, p.Y+5*k))
				g.Put(4, at(p.X, p.Y-5*k))
				g.Put(5, at(p.X+3*k, p.Y+4*k))
				g.Put(6, at(p.X-4*k, p.Y+3*k))
				g.Put(7, at(p.X+4*k, p.Y-3*k))
				g.Put(8, at(p.X-3*k, p.Y-4*k))
				g.Put(9, at(p.X-4*k, p.Y-3*k-1))
				wantNear(t, g, p, 5*k-1)
				wantNear(t, g, p, 5*k, 1, 2, 3, 4, 5, 6, 7, 8)
				wantNear(t, g, p, 5*k+1, 1, 2, 3, 4, 5, 6, 7, 8, 9)
				wantNearest(t, g, p, 5*k+1, 9, 1, 2, 3, 4, 5, 6, 7, 8, 9)
				wantNearest(t, g, p, 5*k+1, 3, 1, 2, 3)
			}
		}
	})
}

// P20.3 (Hard places): at the ends of int64 no sum wraps round, so that things at one end are not near the other one.
func TestNearAtTheEnds(t *testing.T) {
	everySide(t, func(t *testing.T, g *grid.Grid, others int) {
		for i, p := range []api.Vec{at(least, least), at(least, greatest), at(greatest, least), at(greatest, greatest)} {
			g.Put(i, p)
			// One a step inside, in both parts.
			g.Put(10+i, at(p.X-p.X/greatest, p.Y-p.Y/greatest))
		}
		for i, p := range []api.Vec{at(least, least), at(least, greatest), at(greatest, least), at(greatest, greatest)} {
			wantNear(t, g, p, 0, i)
			wantNear(t, g, p, 1, i)
			for _, r := range []int64{2, 3, 65536, 1 << 30, reach - 1} {
				wantNear(t, g, p, r, i, 10+i)
				wantNearest(t, g, p, r, 9, i, 10+i)
			}
			if others == 0 {
				wantNear(t, g, p, greatest, 0, 1, 2, 3, 10, 11, 12, 13)
			}
		}
	})
}

// P20.3 (Hard places): places that are farther apart than 2^31 - 1 in a part are just that far: from that r on they are near along it, from 3037000499 on however they lie.
func TestNearFarAway(t *testing.T) {
	everySide(t, func(t *testing.T, g *grid.Grid, others int) {
		far := []api.Vec{at(reach-1, 0), at(reach, 0), at(0, -reach), at(reach+1, 0), at(0, 1<<40), at(least, 0), at(0, greatest), at(-1<<45, 1), at(1<<50, -1<<50), at(greatest, least)}
		for i, p := range far {
			g.Put(i, p)
		}
		for r, want := range map[int64][]int{
			reach - 2: nil, reach - 1: {0}, reach: {0, 1, 2, 3, 4, 5, 6}, reach + 1: {0, 1, 2, 3, 4, 5, 6, 7}, beyond - 1: {0, 1, 2, 3, 4, 5, 6, 7},
			beyond: {0, 1, 2, 3, 4, 5, 6, 7, 8, 9}, beyond + 1: {0, 1, 2, 3, 4, 5, 6, 7, 8, 9}, 1 << 32: {0, 1, 2, 3, 4, 5, 6, 7, 8, 9}, greatest: {0, 1, 2, 3, 4, 5, 6, 7, 8, 9},
		} {
			l := g.Near(at(0, 0), r)
			// The crowd is as far away as can be.
			if r >= beyond && len(l) == len(want)+others {
				l = l[:len(want)]
			}
			if !slices.Equal(l, want) {
				t.Fatalf("Near of %d, %d others: %v, want %v", r, others, l, want)
			}
		}
		// Those that the difference is kept of are equally far away: they come by id.
		wantNearest(t, g, at(0, 0), greatest, 10, 0, 1, 2, 3, 4, 5, 6, 7, 8, 9)
		g.Put(-5, at(0, -1<<60))
		g.Put(77, at(3, reach-1))
		wantNearest(t, g, at(0, 0), greatest, 5, 0, 77, -5, 1, 2)
		wantNearest(t, g, at(0, 0), greatest, 9, 0, 77, -5, 1, 2, 3, 4, 5, 6)
		wantNearest(t, g, at(0, 0), reach-1, 9, 0)
	})
}

// P20.3: the ids rise, whatever they are and however they came.
func TestNearRises(t *testing.T) {
	everySide(t, func(t *testing.T, g *grid.Grid, others int) {
		for i := range numbers {
			g.Put(numbers[i*5%len(numbers)], at(int64(-i), int64(i*3)))
		}
		wantNear(t, g, at(0, 0), 1<<20, numbers...)
		g.Put(math.MaxInt, at(0, 0))
		g.Put(math.MinInt, at(1, 0))
		g.Put(0, at(0, -1))
		wantNear(t, g, at(0, 0), 1, math.MinInt, 0, math.MaxInt)
		wantNearest(t, g, at(0, 0), 1, 3, math.MaxInt, math.MinInt, 0)
	})
}

// P20.4: with n below 1, below, at and above how many there are.
func TestNearestOfN(t *testing.T) {
	everySide(t, func(t *testing.T, g *grid.Grid, others int) {
		all := []int{8, -2, 5, 6, 0, 1}
		for i, id := range all {
			g.Put(id, at(0, -int64(i)*9))
		}
		for n, want := range map[int][]int{
			math.MinInt: nil, -6: nil, -1: nil, 0: nil, 1: all[:1], 2: all[:2], 5: all[:5], 6: all, 7: all, 1000: all, math.MaxInt: all,
		} {
			wantNearest(t, g, at(0, 0), 45, n, want...)
		}
		wantNearest(t, g, at(0, 0), 44, 6, all[:5]...)
		wantNearest(t, g, at(0, 0), 0, 6, 8)
		wantNearest(t, g, at(0, -45), 1<<20, 6, 1, 0, 6, 5, -2, 8)
		wantNearest(t, g, at(0, -22), 1<<20, 6, 5, 6, -2, 0, 8, 1)
	})
}

// P20.4: things equally far away come by id, also where not all of them are told; the squares tell, which a length rounded down would not.
func TestNearestEquallyFar(t *testing.T) {
	everySide(t, func(t *testing.T, g *grid.Grid, others int) {
		for i, p := range []api.Vec{at(25, 0), at(-7, 24), at(0, -25), at(20, 15), at(-15, -20), at(24, 7), at(0, 25)} {
			g.Put(70-10*i, p)
		}
		g.Put(-1, at(25, 1))
		g.Put(-2, at(1, -26))
		g.Put(99, at(24, 6))
		want := []int{99, 10, 20, 30, 40, 50, 60, 70, -1, -2}
		for n := range len(want) + 1 {
			wantNearest(t, g, at(0, 0), 100, n, want[:n]...)
		}
		wantNearest(t, g, at(0, 0), 25, 100, want[:8]...)
	})
}
