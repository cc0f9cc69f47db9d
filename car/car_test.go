package car_test

import (
	"math"
	"math/big"
	"strings"
	"testing"

	"joust/api"
	"joust/board"
	"joust/car"
)

const (
	least    = math.MinInt64
	greatest = math.MaxInt64
	unit     = api.One
	side     = 524288 // of a cell
	half     = 98304  // of a car's box
	// example has the spawns (12, 12), (28, 28), (36, 28), energy about (28, 12), ammunition about (12, 28), in units.
	example = "#######\n#S.E..#\n#.....#\n#A.SS.#\n#######\n"
	// pillar has a wall in its midst, from (24, 24) to (32, 32) units.
	pillar = "#######\n#S....#\n#.....#\n#..#..#\n#.....#\n#....S#\n#######\n"
)

func at(x, y int64) api.Vec { return api.Vec{X: x, Y: y} }

func units(x, y int64) api.Vec { return at(x*unit, y*unit) }

func parsed(t *testing.T, text string) *board.Board {
	t.Helper()
	b, e := board.Parse(text)
	if e != api.OK {
		t.Fatalf("Parse(%q): %v", text, e)
	}
	return b
}

func wantCar(t *testing.T, what string, got, want api.Car) {
	t.Helper()
	if got != want {
		t.Errorf("%s = %+v, want %+v", what, got, want)
	}
}

func whole(x int64) *big.Int { return big.NewInt(x) }

func plus(a, b int64) *big.Int { return new(big.Int).Add(whole(a), whole(b)) }

// down is a quotient of whole numbers, rounded down; the divisor is above 0.
func down(x *big.Int, by int64) *big.Int { return new(big.Int).Div(x, whole(by)) }

// bounded is a whole number of any size, kept within most.
func bounded(x *big.Int, most int64) int64 {
	if x.CmpAbs(whole(most)) > 0 {
		return int64(x.Sign()) * most
	}
	return x.Int64()
}

// wrapped is a sum modulo 2^64, as an int tells it.
func wrapped(a, b int) int { return int(int64(uint64(a) + uint64(b))) }

// dice gives numbers that follow no rule a program could be after, the same ones always.
type dice uint64

func (d *dice) next() int64 {
	x := uint64(*d)
	x ^= x << 13
	x ^= x >> 7
	x ^= x << 17
	*d = dice(x)
	return int64(x)
}

// below gives a number from 0 to n - 1.
func (d *dice) below(n int) int { return int(uint64(d.next()) % uint64(n)) }

// about gives a number from n - by to n + by.
func (d *dice) about(n int64, by int) int64 { return n - int64(by) + int64(d.below(2*by+1)) }

// sized gives a number of any size.
func (d *dice) sized() int64 { return d.next() >> (uint64(d.next()) % 64) }

// number gives an int of any size, often one at an edge.
func (d *dice) number() int {
	if d.below(2) == 0 {
		return int(d.sized())
	}
	list := edges()
	return list[d.below(len(list))]
}

// edges gives ints at and about what a car's fields are held against, and both ends of int.
func edges() []int {
	list := []int{math.MinInt, math.MinInt + 1, math.MinInt + 4, math.MinInt + 5, math.MaxInt, math.MaxInt - 1, math.MaxInt - 4, math.MaxInt - 5}
	for _, n := range []int{0, 4, 8, 20, 40, 100, 248, 256, 65536, 1 << 31, 1 << 32, 1 << 62} {
		for by := -2; by <= 2; by++ {
			list = append(list, n+by, -n+by)
		}
	}
	return list
}

// part gives one part of a place: about a cell's ends and a box beside them, within a board, or of any size.
func (d *dice) part(cells int) int64 {
	end := int64(d.below(cells+1)) * side
	switch d.below(6) {
	case 0:
		return d.about(end, 3)
	case 1:
		return d.about(end+half, 40000)
	case 2:
		return d.about(end-half, 40000)
	case 3:
		return d.sized()
	default:
		return int64(d.below(cells * side))
	}
}

// speed gives one part of a speed: mostly one that a car may have, else of any size.
func (d *dice) speed() int64 {
	switch d.below(8) {
	case 0:
		return d.sized()
	case 1:
		return d.about(0, 33)
	case 2:
		return d.about(unit, 6000)
	case 3:
		return d.about(-unit, 6000)
	case 4:
		return []int64{least, least + 1, greatest, api.Max, -api.Max, api.Max - 1}[d.below(6)]
	default:
		return d.about(0, unit)
	}
}

// car gives one with any fields, mostly no wreck, mostly on the board.
func (d *dice) car(b *board.Board) api.Car {
	wide, high := b.Size()
	c := api.Car{
		Player:  d.number(),
		Name:    []string{"", "ann", "bob", "\u03b1-\u00e9", strings.Repeat("x", 300)}[d.below(5)],
		At:      at(d.part(wide), d.part(high)),
		Speed:   at(d.speed(), d.speed()),
		Heading: d.number(),
		Health:  d.number(),
		Energy:  d.number(),
		Ammo:    d.number(),
		Cool:    d.number(),
		Spawns:  d.number(),
		Score:   d.number(),
	}
	if d.below(8) == 0 {
		c.Wait = d.number()
	}
	return c
}

func (d *dice) intent() api.Intent {
	i := api.Intent{Player: d.number(), Throttle: d.below(201) - 100, Turn: d.below(17) - 8, Fire: d.below(2) == 0, Boost: d.below(2) == 0}
	if d.below(3) == 0 {
		i.Throttle = d.number()
	}
	if d.below(3) == 0 {
		i.Turn = d.number()
	}
	return i
}

// text gives a board of so many cells with a spawn inside, and a wall in one of so many cells.
func (d *dice) text(wide, high, walls int) string {
	spawnX, spawnY := 1+d.below(wide-2), 1+d.below(high-2)
	var text strings.Builder
	for y := range high {
		for x := range wide {
			switch {
			case x == spawnX && y == spawnY:
				text.WriteByte('S')
			case d.below(walls) == 0:
				text.WriteByte('#')
			default:
				text.WriteByte(".S.EA.."[d.below(7)])
			}
		}
		text.WriteByte('\n')
	}
	return text.String()
}

// boards gives some of one spawn, of few and of very many, narrow ones and wide ones.
func boards(t *testing.T) []*board.Board {
	t.Helper()
	d := dice(88172645463325252)
	texts := []string{
		example, pillar,
		"###\n#S#\n###\n",
		"########\n#S.E.A.#\n########\n",
		"###\n#S#\n#A#\n#E#\n#S#\n#S#\n###\n",
		strings.Repeat(strings.Repeat("S", 64)+"\n", 9),
		d.text(64, 64, 9), d.text(12, 7, 4), d.text(7, 12, 3), d.text(9, 9, 1000), d.text(20, 20, 2),
	}
	var list []*board.Board
	for _, text := range texts {
		list = append(list, parsed(t, text))
	}
	return list
}

// spawnOf is the spawn of a number, as the chapter says it: modulo how many there are, from 0 on.
func spawnOf(b *board.Board, n int) api.Vec {
	list := b.Spawns()
	return list[new(big.Int).Mod(whole(int64(n)), whole(int64(len(list)))).Int64()]
}

// plainCome is P15.2, field by field.
func plainCome(b *board.Board, c api.Car) api.Car {
	c.Spawns = wrapped(c.Spawns, 1)
	c.At = spawnOf(b, wrapped(c.Player, c.Spawns))
	c.Heading, c.Speed, c.Health, c.Energy, c.Ammo, c.Cool, c.Wait = 0, at(0, 0), 100, 100, 20, 0, 0
	return c
}

// P15.1: the chapter's examples, and players in turn.
func TestNewExamples(t *testing.T) {
	b := parsed(t, example)
	for player, want := range map[int]api.Vec{
		0: units(12, 12), 1: units(28, 28), 2: units(36, 28), 3: units(12, 12), 4: units(28, 28), 5: units(36, 28), 31: units(28, 28),
		-1: units(36, 28), -2: units(28, 28), -3: units(12, 12), -4: units(36, 28),
		math.MaxInt: units(28, 28), math.MinInt: units(28, 28), // 3 goes into both with the rest 1, from 0 on
	} {
		wantCar(t, "New", car.New(b, player, "x"), api.Car{Player: player, Name: "x", At: want, Health: 100, Energy: 100, Ammo: 20})
	}
	one := parsed(t, "###\n#S#\n###")
	for _, player := range []int{0, 1, 31, -1, -32, math.MinInt, math.MaxInt} {
		wantCar(t, "New", car.New(one, player, ""), api.Car{Player: player, At: units(12, 12), Health: 100, Energy: 100, Ammo: 20})
	}
}

// P15.1: any player on any board.
func TestNewAny(t *testing.T) {
	d := dice(5)
	for _, b := range boards(t) {
		players := edges()
		for n := -70; n <= 70; n++ {
			players = append(players, n, int(d.next()))
		}
		for _, n := range players {
			want := api.Car{Player: n, Name: "ann", At: spawnOf(b, n), Health: 100, Energy: 100, Ammo: 20}
			if got := car.New(b, n, "ann"); got != want {
				t.Fatalf("%q: New(%d) = %+v, want %+v", b.Print(), n, got, want)
			}
		}
	}
}

// P15.2: the chapter's examples; what stays of a car that comes; a sum that wraps round.
func TestComeExamples(t *testing.T) {
	b := parsed(t, example)
	c := car.New(b, 1, "ann")
	for n, want := range []api.Vec{units(36, 28), units(12, 12), units(28, 28), units(36, 28)} {
		c = car.Come(b, c)
		wantCar(t, "Come", c, api.Car{Player: 1, Name: "ann", At: want, Health: 100, Energy: 100, Ammo: 20, Spawns: n + 1})
	}
	used := api.Car{Player: -7, Name: "bob", At: at(least, 5), Speed: at(-9, greatest), Heading: 300, Health: -1, Energy: 1000, Ammo: -3, Cool: 9, Wait: 1, Spawns: -2, Score: -11}
	wantCar(t, "Come of a used car", car.Come(b, used), api.Car{Player: -7, Name: "bob", At: units(28, 28), Health: 100, Energy: 100, Ammo: 20, Spawns: -1, Score: -11})
	last := api.Car{Player: 5, Spawns: math.MaxInt}
	wantCar(t, "Come once more", car.Come(b, last), api.Car{Player: 5, At: units(12, 12), Health: 100, Energy: 100, Ammo: 20, Spawns: math.MinInt}) // 5 - 2^63 is 0 modulo 3
	last.Player, last.Spawns = math.MaxInt, 0
	wantCar(t, "Come of the last player", car.Come(b, last), api.Car{Player: math.MaxInt, At: units(28, 28), Health: 100, Energy: 100, Ammo: 20, Spawns: 1}) // the sum is -2^63
}

// P15.2: cars with any fields, wrecks or not, on any board.
func TestComeAny(t *testing.T) {
	d := dice(77)
	for _, b := range boards(t) {
		for range 500 {
			c := d.car(b)
			if got, want := car.Come(b, c), plainCome(b, c); got != want {
				t.Fatalf("%q: Come(%+v) = %+v, want %+v", b.Print(), c, got, want)
			}
		}
	}
}

// P15.8: behind as many Comes as there are spawns each of them was taken once, in their order, and the place is the first one again.
func TestComeInTurn(t *testing.T) {
	for _, b := range boards(t) {
		list := b.Spawns()
		for _, player := range []int{0, 1, 2, 31, -1, -32, 1 << 40} {
			c := car.Come(b, car.New(b, player, "ann"))
			first := c.At
			for n := range list {
				if want := list[((player+1+n)%len(list)+len(list))%len(list)]; c.At != want {
					t.Fatalf("%q: player %d, Come number %d: at %v, want %v", b.Print(), player, n+1, c.At, want)
				}
				c = car.Come(b, c)
			}
			if c.At != first || c.Spawns != len(list)+1 {
				t.Fatalf("%q: player %d: at %v behind %d Comes, ahead of them at %v", b.Print(), player, c.At, len(list), first)
			}
		}
	}
}
