package car_test

import (
	"math"
	"math/big"
	"testing"

	"joust/api"
	"joust/car"
)

// grown is a whole number and some more, where that is above most: most.
func grown(n int, more, most int64) int {
	x := plus(int64(n), more)
	if x.Cmp(whole(most)) > 0 {
		return int(most)
	}
	return int(x.Int64())
}

// plainRest is P15.4, field by field; cell is what the car stands on.
func plainRest(cell rune, c api.Car, tick uint64) api.Car {
	if c.Wait > 0 {
		return c
	}
	if c.Cool > 0 {
		c.Cool--
	}
	if cell == 'E' {
		c.Energy = grown(c.Energy, 5, 100)
	} else {
		c.Energy = grown(c.Energy, 1, 100)
	}
	if cell == 'A' && tick/8*8 == tick {
		c.Ammo = grown(c.Ammo, 1, 20)
	}
	return c
}

// grounds gives a place on each kind of cell of the example, and outside of it.
func grounds() map[rune][]api.Vec {
	return map[rune][]api.Vec{
		'E': {units(28, 12), at(3*side, side), at(4*side-1, 2*side-1)},
		'A': {units(12, 28), at(side, 3*side), at(2*side-1, 4*side-1)},
		'.': {units(20, 12), at(3*side-1, side), at(4*side, side), at(3*side, 2*side), at(2*side, 3*side), at(side, 3*side-1), units(28, 20)},
		'S': {units(12, 12), units(28, 28), units(36, 28)},
		'#': {units(4, 4), at(side-1, 3*side), at(3*side, side-1), at(-1, -1), at(least, greatest), at(greatest, least), at(1<<32+28*unit, 12*unit), at(1<<62+12*unit, 28*unit)},
	}
}

// P15.4: answers written by hand, for the chapter's examples and both ends of int.
func TestRestExamples(t *testing.T) {
	b := parsed(t, example)
	c := car.New(b, 1, "ann")
	energy, ammo, free := units(28, 12), units(12, 28), units(20, 12)
	for _, x := range []struct {
		at                  api.Vec
		tick                uint64
		energy, ammo, cool  int
		energy1, ammo1, hot int
	}{
		{energy, 8, 99, 5, 0, 100, 5, 0}, {free, 8, 99, 5, 0, 100, 5, 0}, {energy, 8, 150, 5, 0, 100, 5, 0}, {free, 8, 150, 5, 0, 100, 5, 0},
		{energy, 1, 95, 5, 0, 100, 5, 0}, {energy, 1, 96, 5, 0, 100, 5, 0}, {energy, 1, 94, 5, 0, 99, 5, 0}, {energy, 1, 0, 5, 0, 5, 5, 0}, {energy, 1, -5, 5, 0, 0, 5, 0},
		{free, 1, 0, 5, 0, 1, 5, 0}, {free, 1, 100, 5, 0, 100, 5, 0}, {free, 1, 101, 5, 0, 100, 5, 0}, {free, 1, -1, 5, 0, 0, 5, 0},
		{ammo, 8, 50, 5, 0, 51, 6, 0}, {ammo, 9, 50, 5, 0, 51, 5, 0}, {ammo, 7, 50, 5, 0, 51, 5, 0}, {ammo, 0, 50, 5, 0, 51, 6, 0}, {ammo, 4, 50, 5, 0, 51, 5, 0}, {ammo, 16, 50, 5, 0, 51, 6, 0},
		{ammo, 8, 50, 19, 0, 51, 20, 0}, {ammo, 8, 50, 20, 0, 51, 20, 0}, {ammo, 8, 50, 21, 0, 51, 20, 0}, {ammo, 9, 50, 21, 0, 51, 21, 0}, {free, 8, 50, 21, 0, 51, 21, 0}, {energy, 8, 50, 21, 0, 55, 21, 0}, {ammo, 8, 50, -1, 0, 51, 0, 0},
		{ammo, math.MaxUint64 - 7, 50, 5, 0, 51, 6, 0}, {ammo, math.MaxUint64, 50, 5, 0, 51, 5, 0}, {ammo, 1 << 63, 50, 5, 0, 51, 6, 0}, {ammo, 1<<32 + 4, 50, 5, 0, 51, 5, 0},
		{free, 1, 50, 5, 8, 51, 5, 7}, {free, 1, 50, 5, 1, 51, 5, 0}, {free, 1, 50, 5, 0, 51, 5, 0}, {free, 1, 50, 5, -1, 51, 5, -1}, {free, 1, 50, 5, math.MinInt, 51, 5, math.MinInt}, {free, 1, 50, 5, math.MaxInt, 51, 5, math.MaxInt - 1},
		{energy, 8, math.MaxInt, math.MaxInt, 0, 100, math.MaxInt, 0}, {ammo, 8, math.MaxInt, math.MaxInt, 0, 100, 20, 0}, {ammo, 9, math.MaxInt, math.MaxInt, 0, 100, math.MaxInt, 0},
		{energy, 8, math.MinInt, math.MinInt, 0, math.MinInt + 5, math.MinInt, 0}, {ammo, 8, math.MinInt, math.MinInt, 0, math.MinInt + 1, math.MinInt + 1, 0},
		{energy, 8, math.MaxInt - 4, 5, 0, 100, 5, 0}, {energy, 8, math.MaxInt - 3, 5, 0, 100, 5, 0},
	} {
		c.At, c.Energy, c.Ammo, c.Cool = x.at, x.energy, x.ammo, x.cool
		want := c
		want.Energy, want.Ammo, want.Cool = x.energy1, x.ammo1, x.hot
		if got := car.Rest(b, c, x.tick); got != want {
			t.Errorf("Rest(%+v, %d) = %+v, want %+v", c, x.tick, got, want)
		}
	}
}

// P15.4: every kind of cell, up to its last places, with every number that is at an edge.
func TestRestOnEveryCell(t *testing.T) {
	b := parsed(t, example)
	ticks := []uint64{0, 1, 2, 4, 6, 7, 8, 9, 12, 15, 16, 17, 24, 100, 1 << 32, 1<<32 + 1, math.MaxUint64, math.MaxUint64 - 7}
	numbers := append(edges(), 94, 95, 96, 97, 98, 99, 100, 101, 102, 17, 18, 19, 20, 21, 22)
	for cell, places := range grounds() {
		for _, p := range places {
			if b.At(p) != cell {
				t.Fatalf("%v is a place of %c", p, b.At(p))
			}
			for n, energy := range numbers {
				for _, tick := range ticks {
					c := api.Car{Player: n, Name: "ann", At: p, Speed: at(least, 7), Heading: -n, Health: -3, Energy: energy, Ammo: numbers[(n+11)%len(numbers)], Cool: numbers[(n+23)%len(numbers)], Wait: -n, Spawns: n, Score: -n}
					if got, want := car.Rest(b, c, tick), plainRest(cell, c, tick); got != want {
						t.Fatalf("on %c: Rest(%+v, %d) = %+v, want %+v", cell, c, tick, got, want)
					}
				}
			}
		}
	}
}

// P15.4: any car at any tick; wrecks stay as they are.
func TestRestAny(t *testing.T) {
	d := dice(31)
	for _, b := range boards(t) {
		for range 3000 {
			c, tick := d.car(b), uint64(d.sized())
			if got, want := car.Rest(b, c, tick), plainRest(b.At(c.At), c, tick); got != want {
				t.Fatalf("%q: Rest(%+v, %d) = %+v, want %+v", b.Print(), c, tick, got, want)
			}
			c.Wait = 1 + d.below(math.MaxInt)
			if got := car.Rest(b, c, tick&^7); got != c {
				t.Fatalf("Rest of the wreck %+v = %+v", c, got)
			}
		}
	}
}

// plainHit is P15.5, in whole numbers without a bound.
func plainHit(c api.Car, hurt int) api.Car {
	if c.Wait > 0 {
		return c
	}
	left := new(big.Int).Sub(whole(int64(c.Health)), whole(int64(max(hurt, 0))))
	if left.Sign() > 0 {
		c.Health = int(left.Int64())
		return c
	}
	c.Health, c.Wait, c.Speed = 0, 40, at(0, 0)
	return c
}

// P15.5: answers written by hand, for the chapter's examples and both ends of int.
func TestHitExamples(t *testing.T) {
	c := car.New(parsed(t, example), 1, "ann")
	c.Speed = at(9, -9)
	for _, x := range []struct {
		health, hurt, want int
		wreck              bool
	}{
		{100, 20, 80, false}, {100, 100, 0, true}, {100, -5, 100, false}, {100, 0, 100, false}, {100, 99, 1, false}, {100, 101, 0, true}, {20, 20, 0, true}, {21, 20, 1, false},
		{100, math.MaxInt, 0, true}, {100, math.MinInt, 100, false}, {math.MaxInt, math.MaxInt, 0, true}, {math.MaxInt, math.MaxInt - 1, 1, false}, {math.MaxInt, math.MinInt, math.MaxInt, false}, {math.MaxInt, 0, math.MaxInt, false},
		{math.MinInt, math.MaxInt, 0, true}, {math.MinInt, 1, 0, true}, {math.MinInt, 0, 0, true}, {math.MinInt, math.MinInt, 0, true},
		{0, 0, 0, true}, {0, -5, 0, true}, {0, 5, 0, true}, {-1, 0, 0, true}, {-1, -5, 0, true}, {1, 0, 1, false}, {1, -1, 1, false}, {1, 1, 0, true},
	} {
		c.Health = x.health
		want := c
		want.Health = x.want
		if x.wreck {
			want.Wait, want.Speed = 40, at(0, 0)
		}
		if got := car.Hit(c, x.hurt); got != want {
			t.Errorf("Hit(%+v, %d) = %+v, want %+v", c, x.hurt, got, want)
		}
	}
}

// P15.5: every two numbers at an edge, and any car; wrecks stay as they are.
func TestHitAny(t *testing.T) {
	b := parsed(t, example)
	d := dice(13)
	for _, health := range edges() {
		for _, hurt := range edges() {
			c := d.car(b)
			c.Health = health
			if got, want := car.Hit(c, hurt), plainHit(c, hurt); got != want {
				t.Fatalf("Hit(%+v, %d) = %+v, want %+v", c, hurt, got, want)
			}
			c.Wait = 1 + d.below(math.MaxInt)
			if got := car.Hit(c, hurt); got != c {
				t.Fatalf("Hit of the wreck %+v by %d = %+v", c, hurt, got)
			}
		}
	}
}

// bumped compares one bump, both ways round, and a second one behind it (P15.8).
func bumped(t *testing.T, a, b api.Car, want bool) {
	t.Helper()
	wantA, wantB := a, b
	if want {
		wantA.Speed, wantB.Speed = b.Speed, a.Speed
	}
	gotA, gotB, got := car.Bump(a, b)
	if gotA != wantA || gotB != wantB || got != want {
		t.Fatalf("Bump(%+v, %+v) = %+v, %+v, %v, want %+v, %+v, %v", a, b, gotA, gotB, got, wantA, wantB, want)
	}
	againB, againA, again := car.Bump(b, a)
	if againA != wantA || againB != wantB || again != want {
		t.Fatalf("Bump(%+v, %+v) = %+v, %+v, %v: not the same both ways", b, a, againB, againA, again)
	}
	if lastA, lastB, last := car.Bump(gotA, gotB); lastA != a || lastB != b || last != want {
		t.Fatalf("%+v and %+v bump twice: %+v, %+v, %v", a, b, lastA, lastB, last)
	}
}

// P15.6, P15.8: cars at, within and beyond two and a half units, wrecks on either side.
func TestBumpExamples(t *testing.T) {
	a := api.Car{Player: 1, Name: "ann", Speed: at(5, -6), Heading: 3, Health: 9, Energy: 8, Ammo: 7, Cool: 6, Spawns: 5, Score: 4}
	b := api.Car{Player: 2, Name: "bob", Speed: at(greatest, least), Heading: 30, Health: 90, Energy: 80, Ammo: 70, Cool: 60, Spawns: 50, Score: 40}
	for _, x := range []struct {
		way  api.Vec
		want bool
	}{
		{at(0, 0), true}, {units(2, 0), true}, {units(3, 0), false}, {units(0, 2), true}, {units(0, 3), false}, {units(-2, 0), true}, {units(-3, 0), false},
		{at(163840, 0), true}, {at(163841, 0), false}, {at(-163840, 0), true}, {at(-163841, 0), false}, {at(0, 163840), true}, {at(0, 163841), false}, {at(0, -163840), true}, {at(0, -163841), false}, {at(163840, 1), false}, {at(1, 163840), false},
		{at(131072, 98304), true}, {at(131072, 98305), false}, {at(131073, 98304), false}, {at(-98304, 131072), true}, {at(-98304, -131073), false}, {at(163839, 572), true}, {at(163839, 573), false},
		{at(1<<31, 0), false}, {at(1<<32, 0), false}, {at(0, 1<<40), false},
	} {
		for _, from := range []api.Vec{at(0, 0), units(28, 28), units(-500, 9000), at(1<<41, -1<<41)} {
			a.At, b.At = from, at(from.X+x.way.X, from.Y+x.way.Y)
			bumped(t, a, b, x.want)
			for _, wait := range []int{1, 40, math.MaxInt} {
				c, d := a, b
				c.Wait = wait
				bumped(t, c, b, false)
				d.Wait = wait
				bumped(t, a, d, false)
				bumped(t, c, d, false)
				c.Wait, d.Wait = -wait, math.MinInt
				bumped(t, c, d, x.want)
			}
		}
	}
	a.At, b.At = at(least, 0), at(greatest, 0)
	bumped(t, a, b, false)
	a.At, b.At = at(least, greatest), at(least+163840, greatest)
	bumped(t, a, b, true)
}

// near tells whether two places are at most two and a half units away, in whole numbers without a bound.
func near(a, b api.Vec) bool {
	x := new(big.Int).Sub(whole(a.X), whole(b.X))
	y := new(big.Int).Sub(whole(a.Y), whole(b.Y))
	x.Mul(x, x)
	return x.Add(x, y.Mul(y, y)).Cmp(whole(163840*163840)) <= 0
}

// P15.6, P15.8: any two cars, near and far.
func TestBumpAny(t *testing.T) {
	d := dice(99)
	b := parsed(t, example)
	hits := 0
	for range 20000 {
		x, y := d.car(b), d.car(b)
		if d.below(3) > 0 {
			y.At = at(x.At.X+d.about(0, 150000), x.At.Y+d.about(0, 150000))
		}
		want := x.Wait <= 0 && y.Wait <= 0 && near(x.At, y.At)
		bumped(t, x, y, want)
		if want {
			hits++
		}
	}
	if hits < 1000 {
		t.Errorf("only %d bumps", hits)
	}
}
