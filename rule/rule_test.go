package rule_test

import (
	"math"
	"math/big"
	"slices"
	"strings"
	"testing"

	"joust/api"
	"joust/board"
	"joust/rule"
)

const (
	unit = api.One
	side = 524288 // of a cell
	half = 98304  // of a car's box
	// example is the chapter's board: spawns at (12, 12) and (28, 28) units, energy about (28, 12), ammunition about (12, 28).
	example = "#####\n#S.E#\n#...#\n#A.S#\n#####\n"
	// hall has room to fly: free from 8 to 120 units along X and from 8 to 56 along Y, spawns at (12, 12), (116, 12), (12, 52), energy about (28, 12), ammunition about (12, 28).
	hall = "################\n#S.E..........S#\n#..............#\n#A.............#\n#..............#\n#..............#\n#S.............#\n################\n"
)

// ends are ints that dice are thrown among, again and again.
var ends = edges()

func at(x, y int64) api.Vec { return api.Vec{X: x, Y: y} }

func units(x, y int64) api.Vec { return at(x*unit, y*unit) }

func parsed(t *testing.T, text string) *board.Board {
	t.Helper()
	b, e := board.Parse(text)
	if e != api.OK {
		t.Fatalf("Parse(%q): %v", text, e)
	}
	return b
}

func joinOf(player int, name string) api.Label {
	return api.Label{Kind: api.LbJoin, Player: player, Name: name}
}

func leaveOf(player int) api.Label { return api.Label{Kind: api.LbLeave, Player: player} }

func tickOf(intents ...api.Intent) api.Label { return api.Label{Kind: api.LbTick, Intents: intents} }

// stepped is what Step answers to labels one after the other, none of which is refused.
func stepped(t *testing.T, b *board.Board, s api.State, labels ...api.Label) api.State {
	t.Helper()
	for _, l := range labels {
		next, e := rule.Step(b, s, l)
		if e != api.OK {
			t.Fatalf("Step(%+v, %+v) = %v", s, l, e)
		}
		s = next
	}
	return s
}

// same is Equal by other means.
func same(a, b api.State) bool {
	if a.Tick != b.Tick || a.Next != b.Next || len(a.Cars) != len(b.Cars) || len(a.Shots) != len(b.Shots) {
		return false
	}
	for i := range a.Cars {
		if a.Cars[i] != b.Cars[i] {
			return false
		}
	}
	for i := range a.Shots {
		if a.Shots[i] != b.Shots[i] {
			return false
		}
	}
	return true
}

func wantState(t *testing.T, what string, got, want api.State) {
	t.Helper()
	if !same(got, want) {
		t.Errorf("%s:\n%+v, want\n%+v", what, got, want)
	}
}

// wantRefused asks for an error, and the zero state with it.
func wantRefused(t *testing.T, b *board.Board, s api.State, l api.Label, want api.Errno) {
	t.Helper()
	got, e := rule.Step(b, s, l)
	if e != want || !zero(got) {
		t.Errorf("Step(%+v, %+v) = %+v, %v, want the zero state, %v", s, l, got, e, want)
	}
}

func zero(s api.State) bool {
	return s.Tick == 0 && len(s.Cars) == 0 && len(s.Shots) == 0 && s.Next == 0
}

// twin is a state in memory of its own, the names not.
func twin(s api.State) api.State {
	s.Cars, s.Shots = slices.Clone(s.Cars), slices.Clone(s.Shots)
	return s
}

func whole(x int64) *big.Int { return big.NewInt(x) }

// bounded is a whole number of any size, kept within most.
func bounded(x *big.Int, most int64) int64 {
	if x.CmpAbs(whole(most)) > 0 {
		return int64(x.Sign()) * most
	}
	return x.Int64()
}

// down is a quotient of whole numbers, rounded down; the divisor is above 0.
func down(x *big.Int, by int64) *big.Int { return new(big.Int).Div(x, whole(by)) }

// sum is the exact one, kept within api.Max.
func sum(a, b int64) int64 { return bounded(new(big.Int).Add(whole(a), whole(b)), api.Max) }

// near tells whether two places are at most r from one another, in whole numbers without a bound.
func near(a, b api.Vec, r uint64) bool {
	x, y := gap(a.X, b.X), gap(a.Y, b.Y)
	return x <= r && y <= r && x*x+y*y <= r*r
}

func gap(a, b int64) uint64 { return uint64(max(a, b)) - uint64(min(a, b)) }

// dice gives numbers that follow no rule a program could be after, the same ones always.
type dice uint64

func (d *dice) next() int64 {
	x := uint64(*d)
	x ^= x << 13
	x ^= x >> 7
	x ^= x << 17
	*d = dice(x)
	return int64(x)
}

// below gives a number from 0 to n - 1.
func (d *dice) below(n int) int { return int(uint64(d.next()) % uint64(n)) }

// one tells whether something comes that comes once in n times.
func (d *dice) one(n int) bool { return d.below(n) == 0 }

// about gives a number from n - by to n + by.
func (d *dice) about(n int64, by int) int64 { return n - int64(by) + int64(d.below(2*by+1)) }

// of gives one of some numbers.
func (d *dice) of(list ...int) int { return list[d.below(len(list))] }

// sized gives a number of any size.
func (d *dice) sized() int64 { return d.next() >> (uint64(d.next()) % 64) }

// number gives an int of any size, often one at an edge.
func (d *dice) number() int {
	if d.one(2) {
		return int(d.sized())
	}
	return d.of(ends...)
}

// edges gives ints at and about what fields are held against, and both ends of int.
func edges() []int {
	list := []int{math.MinInt, math.MinInt + 1, math.MinInt + 8, math.MaxInt, math.MaxInt - 1, math.MaxInt - 8}
	for _, n := range []int{0, 4, 8, 20, 31, 40, 48, 64, 100, 256, 65536, 1 << 31, 1 << 32, 1 << 40, 1 << 62} {
		for by := -2; by <= 2; by++ {
			list = append(list, n+by, -n+by)
		}
	}
	return list
}

// text gives a board of so many cells with a spawn inside, and a wall in one of so many cells.
func (d *dice) text(wide, high, walls int) string {
	spawnX, spawnY := 1+d.below(wide-2), 1+d.below(high-2)
	var text strings.Builder
	for y := range high {
		for x := range wide {
			switch {
			case x == spawnX && y == spawnY:
				text.WriteByte('S')
			case d.one(walls):
				text.WriteByte('#')
			default:
				text.WriteByte("..SEA.."[d.below(7)])
			}
		}
		text.WriteByte('\n')
	}
	return text.String()
}

// boards gives some of one spawn, of few and of many, narrow ones and wide ones, with and without walls inside.
func boards(t *testing.T) []*board.Board {
	t.Helper()
	d := dice(88172645463325252)
	var list []*board.Board
	for _, text := range []string{
		example, hall,
		"###\n#S#\n###\n",
		"#########\n#S.E.A.S#\n#########\n",
		"###\n#S#\n#A#\n#E#\n#.#\n#S#\n###\n",
		strings.Repeat(strings.Repeat(".", 32)+"S"+strings.Repeat(".", 31)+"\n", 64),
		d.text(64, 64, 30), d.text(12, 7, 6), d.text(7, 12, 4), d.text(9, 9, 1000), d.text(20, 20, 3),
	} {
		list = append(list, parsed(t, text))
	}
	return list
}
