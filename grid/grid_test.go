package grid_test

import (
	"math"
	"slices"
	"testing"

	"joust/api"
	"joust/grid"
)

const (
	least    = math.MinInt64
	greatest = math.MaxInt64
	reach    = 1<<31 - 1  // differences of places are kept within it, where distances are asked for
	beyond   = 3037000499 // no two places are farther apart
)

// sides are some of all that there may be: both ends, odd ones, powers of two and those beside them.
var sides = []int64{1, 2, 3, 7, 255, 256, 65535, 65536, 100000, reach, 1 << 31, 1<<40 - 1, 1 << 40}

func at(x, y int64) api.Vec { return api.Vec{X: x, Y: y} }

func made(t *testing.T, side int64) *grid.Grid {
	t.Helper()
	g, e := grid.New(side)
	if g == nil || e != api.OK {
		t.Fatalf("New(%d): %v, %v", side, g, e)
	}
	return g
}

func wantLen(t *testing.T, g *grid.Grid, want int) {
	t.Helper()
	if n := g.Len(); n != want {
		t.Fatalf("Len: %d, want %d", n, want)
	}
}

// wantAt asks At twice: the first one changes nothing.
func wantAt(t *testing.T, g *grid.Grid, id int, want api.Vec, there bool) {
	t.Helper()
	for range 2 {
		if p, is := g.At(id); p != want || is != there {
			t.Fatalf("At(%d): %v, %v, want %v, %v", id, p, is, want, there)
		}
	}
}

func wantDelete(t *testing.T, g *grid.Grid, id int, want bool) {
	t.Helper()
	if is := g.Delete(id); is != want {
		t.Fatalf("Delete(%d): %v, want %v", id, is, want)
	}
}

// wantNear asks Near twice: the first one changes nothing.
func wantNear(t *testing.T, g *grid.Grid, p api.Vec, r int64, want ...int) {
	t.Helper()
	for range 2 {
		if l := g.Near(p, r); !slices.Equal(l, want) {
			t.Fatalf("Near(%v, %d): %v, want %v", p, r, l, want)
		}
	}
}

// wantNearest asks Nearest twice: the first one changes nothing.
func wantNearest(t *testing.T, g *grid.Grid, p api.Vec, r int64, n int, want ...int) {
	t.Helper()
	for range 2 {
		if l := g.Nearest(p, r, n); !slices.Equal(l, want) {
			t.Fatalf("Nearest(%v, %d, %d): %v, want %v", p, r, n, l, want)
		}
	}
}

// wantNothing asks a grid without things whatever can be asked.
func wantNothing(t *testing.T, g *grid.Grid) {
	t.Helper()
	wantLen(t, g, 0)
	for _, id := range []int{math.MinInt, -1, 0, 1, math.MaxInt} {
		wantAt(t, g, id, api.Vec{}, false)
		wantDelete(t, g, id, false)
	}
	for _, p := range []api.Vec{{}, at(least, greatest), at(-1, 65536)} {
		for _, r := range []int64{least, -1, 0, 1, reach, greatest} {
			wantNear(t, g, p, r)
			wantNearest(t, g, p, r, math.MaxInt)
			wantNearest(t, g, p, r, 1)
		}
	}
	wantLen(t, g, 0)
}

// everySide lets a test go through grids of all sides: none of them is seen in an answer (P20.5). With others the grid has a crowd far away from all that a test asks for, so that it is worth while to look into cells.
func everySide(t *testing.T, test func(t *testing.T, g *grid.Grid, others int)) {
	t.Helper()
	for _, side := range sides {
		for _, others := range []int{0, 300} {
			g := made(t, side)
			for i := range others {
				g.Put(1000000+i, at(-1<<50+int64(i%7), -1<<50-int64(i)))
			}
			test(t, g, others)
		}
	}
}

// P20.1: sides that may not be: ErrSize, and no grid.
func TestNewRefused(t *testing.T) {
	for _, side := range []int64{0, -1, -2, -65536, -1 << 40, least, least + 1, 1<<40 + 1, 1<<40 + 2, 1 << 41, 1 << 62, greatest - 1, greatest} {
		if g, e := grid.New(side); g != nil || e != api.ErrSize {
			t.Errorf("New(%d): %v, %v", side, g, e)
		}
	}
}

// P20.1: sides that may be: a grid without things, which takes some.
func TestNew(t *testing.T) {
	for _, side := range sides {
		g := made(t, side)
		wantNothing(t, g)
		g.Put(7, at(side, -side))
		wantLen(t, g, 1)
		wantNear(t, g, at(side, -side), 0, 7)
	}
}

// The chapter's examples, in their order.
func TestExamples(t *testing.T) {
	g := made(t, 65536)
	g.Put(5, at(0, 0))
	g.Put(3, at(65536, 0))
	g.Put(9, at(-1, 0))
	wantNear(t, g, at(0, 0), 0, 5)
	wantNear(t, g, at(0, 0), 1, 5, 9)
	wantNear(t, g, at(0, 0), 65536, 3, 5, 9)
	wantNear(t, g, at(0, 0), -1)
	wantNearest(t, g, at(0, 0), 65536, 2, 5, 9)
	wantNearest(t, g, at(0, 0), 65536, 9, 5, 9, 3)
	wantNearest(t, g, at(0, 0), 65536, 0)
	g.Put(5, at(65537, 0))
	wantNear(t, g, at(65536, 0), 1, 3, 5)
	wantLen(t, g, 3)
	wantDelete(t, g, 5, true)
	wantDelete(t, g, 5, false)
	wantAt(t, g, 5, api.Vec{}, false)
	wantAt(t, g, 3, at(65536, 0), true)
}
