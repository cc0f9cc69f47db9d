package shot_test

import (
	"math"
	"math/big"
	"strings"
	"testing"

	"joust/api"
	"joust/board"
)

const (
	least    = math.MinInt64
	greatest = math.MaxInt64
	unit     = api.One
	side     = 524288 // of a cell
	reach    = 98304  // how far from a car a shot hits it
	// example is the chapter's board: free from 8 to 56 units.
	example = "########\n#S.....#\n#......#\n#......#\n#......#\n#......#\n#......#\n########\n"
	// pillar has a wall in its midst, from (24, 24) to (32, 32) units.
	pillar = "#######\n#S....#\n#.....#\n#..#..#\n#.....#\n#....S#\n#######\n"
)

// What dice are thrown among, again and again.
var (
	ends   = edges()
	beyond = far()
)

func at(x, y int64) api.Vec { return api.Vec{X: x, Y: y} }

func units(x, y int64) api.Vec { return at(x*unit, y*unit) }

func parsed(t *testing.T, text string) *board.Board {
	t.Helper()
	b, e := board.Parse(text)
	if e != api.OK {
		t.Fatalf("Parse(%q): %v", text, e)
	}
	return b
}

// free is a board without a wall inside, of 64 cells either way.
func free(t *testing.T) *board.Board {
	t.Helper()
	half := strings.Repeat(strings.Repeat(".", 64)+"\n", 32)
	return parsed(t, half+strings.Repeat(".", 32)+"S"+half[:31]+"\n"+half[:31*65])
}

func whole(x int64) *big.Int { return big.NewInt(x) }

// down is a quotient of whole numbers, rounded down; the divisor is above 0.
func down(x, by int64) *big.Int { return new(big.Int).Div(whole(x), whole(by)) }

// bounded is a whole number of any size, kept within api.Max.
func bounded(x *big.Int) int64 {
	if x.CmpAbs(whole(api.Max)) > 0 {
		return int64(x.Sign()) * api.Max
	}
	return x.Int64()
}

// near tells whether two places are at most reach from one another, in whole numbers without a bound.
func near(a, b api.Vec) bool {
	x := new(big.Int).Sub(whole(a.X), whole(b.X))
	y := new(big.Int).Sub(whole(a.Y), whole(b.Y))
	x.Mul(x, x)
	y.Mul(y, y)
	return x.Add(x, y).Cmp(whole(reach*reach)) <= 0
}

// dice gives numbers that follow no rule a program could be after, the same ones always.
type dice uint64

func (d *dice) next() int64 {
	x := uint64(*d)
	x ^= x << 13
	x ^= x >> 7
	x ^= x << 17
	*d = dice(x)
	return int64(x)
}

// below gives a number from 0 to n - 1.
func (d *dice) below(n int) int { return int(uint64(d.next()) % uint64(n)) }

// about gives a number from n - by to n + by.
func (d *dice) about(n int64, by int) int64 { return n - int64(by) + int64(d.below(2*by+1)) }

// sized gives a number of any size.
func (d *dice) sized() int64 { return d.next() >> (uint64(d.next()) % 64) }

// number gives an int of any size, often one at an edge.
func (d *dice) number() int {
	if d.below(2) == 0 {
		return int(d.sized())
	}
	return ends[d.below(len(ends))]
}

// edges gives ints at and about what fields are held against, and both ends of int.
func edges() []int {
	list := []int{math.MinInt, math.MinInt + 1, math.MinInt + 7, math.MinInt + 8, math.MaxInt, math.MaxInt - 1}
	for _, n := range []int{0, 8, 20, 40, 48, 64, 100, 256, 65536, 1 << 31, 1 << 32, 1 << 62} {
		for by := -2; by <= 2; by++ {
			list = append(list, n+by, -n+by)
		}
	}
	return list
}

// far gives numbers at and beyond api.Max, about what lies a shot's way ahead of it, and both ends of int64.
func far() []int64 {
	list := []int64{least, least + 1, least + 3*unit, greatest, greatest - 1, greatest - 3*unit}
	for _, way := range []int64{0, unit, 2 * unit, 3 * unit, 46341, 2 * 46341, 3 * 46341} {
		for by := int64(-1); by <= 1; by++ {
			list = append(list, api.Max+way+by, api.Max-way+by, -api.Max+way+by, -api.Max-way+by)
		}
	}
	return list
}

// text gives a board of so many cells with a spawn inside, and a wall in one of so many cells.
func (d *dice) text(wide, high, walls int) string {
	spawnX, spawnY := 1+d.below(wide-2), 1+d.below(high-2)
	var text strings.Builder
	for y := range high {
		for x := range wide {
			switch {
			case x == spawnX && y == spawnY:
				text.WriteByte('S')
			case d.below(walls) == 0:
				text.WriteByte('#')
			default:
				text.WriteByte(".S.EA.."[d.below(7)])
			}
		}
		text.WriteByte('\n')
	}
	return text.String()
}

// boards gives some without walls inside, with few and with many, narrow ones and wide ones.
func boards(t *testing.T) []*board.Board {
	t.Helper()
	d := dice(88172645463325252)
	list := []*board.Board{free(t)}
	for _, text := range []string{
		example, pillar,
		"###\n#S#\n###\n",
		"########\n#S.E.A.#\n########\n",
		"###\n#S#\n#A#\n#E#\n#.#\n#S#\n###\n",
		d.text(64, 64, 9), d.text(12, 7, 4), d.text(7, 12, 3), d.text(20, 20, 2),
	} {
		list = append(list, parsed(t, text))
	}
	return list
}
