package grid

import (
	"math"

	"joust/api"
)

const (
	reach = 1<<31 - 1 // vec.Dist2 keeps differences within it: from this r on a thing may be near however far away it lies in one part
	worth = 16        // to ask for a cell takes about as long as to look at so many things
)

// cell is a square of the plane: the one number x, y that way from the one whose least place is (0, 0).
type cell struct{ x, y int64 }

// row is so many numbers of cells in one part, from the first on.
type row struct{ first, count int64 }

// enter lays a thing into the cell of its place.
func (g *Grid) enter(t *thing) {
	c := g.cellOf(t.at)
	g.cells[c] = lay(g.cells[c], inCell, t)
}

// leave takes a thing out of the cell of its place. A cell without things is not kept: a car that drives on and on would leave one behind at every step.
func (g *Grid) leave(t *thing) {
	c := g.cellOf(t.at)
	if left := drop(g.cells[c], inCell, t); len(left) > 0 {
		g.cells[c] = left
	} else {
		delete(g.cells, c)
	}
}

func (g *Grid) cellOf(at api.Vec) cell { return cell{g.number(at.X), g.number(at.Y)} }

// number is that of the cells that have a part of a place, rounded down, so that those on both sides of 0 are equally wide.
func (g *Grid) number(part int64) int64 {
	n := part / g.side
	if part%g.side < 0 {
		n--
	}
	return n
}

// about gives lists that together have all things at most r away from a place, and perhaps others.
func (g *Grid) about(at api.Vec, r int64) [][]*thing {
	if r < 0 {
		return nil
	}
	if r < reach {
		x, y := g.row(at.X, r), g.row(at.Y, r)
		if g.few(x, y) {
			return g.block(x, y)
		}
	}
	return [][]*thing{g.all}
}

// row is that of the cells from r ahead of a part to r behind it, as far as there are places. r is below reach.
func (g *Grid) row(part, r int64) row {
	least, most := int64(math.MinInt64), int64(math.MaxInt64)
	if part > least+r {
		least = part - r
	}
	if part < most-r {
		most = part + r
	}
	first := g.number(least)
	return row{first, g.number(most) - first + 1}
}

// few tells whether asking for all cells of a block takes no longer than looking at all things. How many these are may leave an int64, so the bound is divided instead.
func (g *Grid) few(x, y row) bool {
	most := int64(len(g.all) / worth)
	return y.count <= most/x.count
}

// block gives the lists of a block's cells. The numbers are counted, as the last one may be the greatest int64, behind which there is none.
func (g *Grid) block(x, y row) [][]*thing {
	var found [][]*thing
	for i := range x.count {
		for k := range y.count {
			if list := g.cells[cell{x.first + i, y.first + k}]; list != nil {
				found = append(found, list)
			}
		}
	}
	return found
}
