package shot_test

import (
	"math"
	"math/big"
	"strings"
	"testing"

	"joust/api"
	"joust/fix"
	"joust/shot"
)

// further is the exact sum of a number and so many of a heading's units, kept within api.Max.
func further(x, times, unit int64) int64 {
	way := new(big.Int).Mul(whole(times), whole(unit))
	return bounded(way.Add(way, whole(x)))
}

// plainFire is 16.1, word by word.
func plainFire(c api.Car, id int) (api.Car, api.Shot, bool) {
	if !(c.Wait <= 0 && c.Cool == 0 && c.Ammo >= 1 && c.Energy >= 8) {
		return c, api.Shot{}, false
	}
	x, y := fix.Cos(c.Heading), fix.Sin(c.Heading)
	s := api.Shot{Id: id, Player: c.Player, Left: 48}
	s.At = at(further(c.At.X, 2, x), further(c.At.Y, 2, y))
	s.Speed = at(further(c.Speed.X, 3, x), further(c.Speed.Y, 3, y))
	c.Ammo, c.Energy, c.Cool = c.Ammo-1, c.Energy-8, 8
	return c, s, true
}

func wantFire(t *testing.T, c api.Car, id int) {
	t.Helper()
	gotCar, gotShot, got := shot.Fire(c, id)
	wantCar, wantShot, want := plainFire(c, id)
	if gotCar != wantCar || gotShot != wantShot || got != want {
		t.Fatalf("Fire(%+v, %d) = %+v, %+v, %v, want %+v, %+v, %v", c, id, gotCar, gotShot, got, wantCar, wantShot, want)
	}
}

// loaded is the car of the chapter's first example, with all other fields filled.
func loaded() api.Car {
	return api.Car{Player: 3, Name: "ann", At: at(1048576, 1048576), Speed: at(100, -4), Health: 7, Energy: 8, Ammo: 1, Spawns: 5, Score: -2}
}

// car gives one with any fields, that often may fire.
func (d *dice) car() api.Car {
	c := api.Car{
		Player:  d.number(),
		Name:    []string{"", "ann", "bob", "\u03b1-\u00e9", strings.Repeat("x", 30)}[d.below(5)],
		At:      at(d.sized(), d.sized()),
		Speed:   at(d.sized(), d.sized()),
		Heading: d.number(),
		Health:  d.number(),
		Energy:  d.below(200),
		Ammo:    d.below(30),
		Spawns:  d.number(),
		Score:   d.number(),
	}
	for _, x := range []*int{&c.Energy, &c.Ammo, &c.Cool, &c.Wait} {
		if d.below(6) == 0 {
			*x = d.number()
		}
	}
	for _, x := range []*int64{&c.At.X, &c.At.Y, &c.Speed.X, &c.Speed.Y} {
		if d.below(3) == 0 {
			*x = beyond[d.below(len(beyond))]
		}
	}
	return c
}

// 16.1: the chapter's first example, and what is answered to a car that may not.
func TestFireExample(t *testing.T) {
	c := loaded()
	want := c
	want.Energy, want.Ammo, want.Cool = 0, 0, 8
	shell := api.Shot{Id: 7, Player: 3, At: at(1179648, 1048576), Speed: at(196708, -4), Left: 48}
	if got, s, ok := shot.Fire(c, 7); got != want || s != shell || !ok {
		t.Errorf("Fire = %+v, %+v, %v, want %+v, %+v, true", got, s, ok, want, shell)
	}
	if got, s, ok := shot.Fire(want, 8); got != want || s != (api.Shot{}) || ok {
		t.Errorf("Fire once more = %+v, %+v, %v, want the car, the zero shot, false", got, s, ok)
	}
}

// 16.1: each of the four fields by itself, where all others allow it.
func TestFireRefused(t *testing.T) {
	for _, x := range []struct {
		what  string
		field func(c *api.Car) *int
		yes   []int
		no    []int
	}{
		{"Wait", func(c *api.Car) *int { return &c.Wait }, []int{0, -1, -40, math.MinInt}, []int{1, 2, 40, 1 << 32, math.MaxInt}},
		{"Cool", func(c *api.Car) *int { return &c.Cool }, []int{0}, []int{1, 8, 256, 1 << 32, math.MaxInt, -1, -8, -1 << 32, math.MinInt}},
		{"Ammo", func(c *api.Car) *int { return &c.Ammo }, []int{1, 2, 20, 21, 1 << 32, math.MaxInt}, []int{0, -1, -20, -1 << 32, math.MinInt}},
		{"Energy", func(c *api.Car) *int { return &c.Energy }, []int{8, 9, 100, 101, 1 << 32, math.MaxInt}, []int{7, 1, 0, -1, -8, -1 << 32, math.MinInt, math.MinInt + 7}},
	} {
		for _, n := range x.yes {
			c := loaded()
			*x.field(&c) = n
			want := c
			want.Energy, want.Ammo, want.Cool = c.Energy-8, c.Ammo-1, 8
			if got, s, ok := shot.Fire(c, 7); got != want || s.Left != 48 || s.Player != 3 || !ok {
				t.Errorf("Fire with %s %d = %+v, %+v, %v, want %+v and a shot", x.what, n, got, s, ok, want)
			}
		}
		for _, n := range x.no {
			c := loaded()
			*x.field(&c) = n
			if got, s, ok := shot.Fire(c, 7); got != c || s != (api.Shot{}) || ok {
				t.Errorf("Fire with %s %d = %+v, %+v, %v, want the car, the zero shot, false", x.what, n, got, s, ok)
			}
		}
	}
}

// 16.1: the four fields below, at and above what is asked of each, in all their combinations.
func TestFireEveryField(t *testing.T) {
	ends := []int{math.MinInt, -1, 0, 1, math.MaxInt}
	for _, wait := range ends {
		for _, cool := range ends {
			for _, ammo := range append([]int{2}, ends...) {
				for _, energy := range append([]int{7, 8, 9}, ends...) {
					c := loaded()
					c.Wait, c.Cool, c.Ammo, c.Energy = wait, cool, ammo, energy
					wantFire(t, c, 1)
				}
			}
		}
	}
}

// 16.1: headings of the four quarters, one between, and of any int, which stay as they are.
func TestFireHeadings(t *testing.T) {
	for heading, u := range map[int]api.Vec{
		0: at(65536, 0), 64: at(0, 65536), 128: at(-65536, 0), 192: at(0, -65536), 32: at(46341, 46341), 96: at(-46341, 46341), 160: at(-46341, -46341), 224: at(46341, -46341),
		1: at(65516, 1608), 256: at(65536, 0), -64: at(0, -65536), -1: at(65516, -1608), 1 << 40: at(65536, 0), math.MinInt: at(65536, 0), math.MaxInt: at(65516, -1608),
	} {
		c := loaded()
		c.Heading = heading
		got, s, ok := shot.Fire(c, 7)
		if s.At != at(1048576+2*u.X, 1048576+2*u.Y) || s.Speed != at(100+3*u.X, -4+3*u.Y) || got.Heading != heading || !ok {
			t.Errorf("Fire with the heading %d = %+v, %+v, %v", heading, got, s, ok)
		}
	}
	c := loaded()
	for c.Heading = -600; c.Heading <= 600; c.Heading++ {
		wantFire(t, c, c.Heading)
	}
}

// 16.1: sums at and beyond api.Max, and at both ends of int64: exact ahead of being kept within.
func TestFireFar(t *testing.T) {
	for _, x := range []struct{ from, place, speed int64 }{ // what two and three units more make of a number
		{0, 131072, 196608},
		{api.Max - 196609, api.Max - 65537, api.Max - 1},
		{api.Max - 196608, api.Max - 65536, api.Max},
		{api.Max - 131073, api.Max - 1, api.Max},
		{api.Max - 131072, api.Max, api.Max},
		{api.Max, api.Max, api.Max},
		{api.Max + 1, api.Max, api.Max},
		{greatest, api.Max, api.Max},
		{greatest - 131071, api.Max, api.Max},
		{-api.Max, -api.Max + 131072, -api.Max + 196608},
		{-api.Max - 1, -api.Max + 131071, -api.Max + 196607},
		{-api.Max - 65537, -api.Max + 65535, -api.Max + 131071},
		{-api.Max - 131071, -api.Max + 1, -api.Max + 65537},
		{-api.Max - 131073, -api.Max, -api.Max + 65535},
		{-api.Max - 196607, -api.Max, -api.Max + 1},
		{-api.Max - 196609, -api.Max, -api.Max},
		{least, -api.Max, -api.Max},
	} {
		c := loaded()
		c.At, c.Speed = at(x.from, 5), at(x.from, 6)
		wantShot(t, c, at(x.place, 5), at(x.speed, 6))
		c.At, c.Speed, c.Heading = at(5, x.from), at(6, x.from), 64
		wantShot(t, c, at(5, x.place), at(6, x.speed))
		if x.from == least {
			continue // it has no opposite
		}
		c.At, c.Speed, c.Heading = at(-x.from, 5), at(-x.from, 6), 128
		wantShot(t, c, at(-x.place, 5), at(-x.speed, 6))
		c.At, c.Speed, c.Heading = at(5, -x.from), at(6, -x.from), 192
		wantShot(t, c, at(5, -x.place), at(6, -x.speed))
	}
}

// wantShot asks for a shot's place and speed; the car's stay.
func wantShot(t *testing.T, c api.Car, place, speed api.Vec) {
	t.Helper()
	got, s, ok := shot.Fire(c, 7)
	if s.At != place || s.Speed != speed || !ok || got.At != c.At || got.Speed != c.Speed {
		t.Errorf("Fire(%+v) = %+v, %+v, %v, want a shot at %v with the speed %v", c, got, s, ok, place, speed)
	}
}

// 16.1: a part at its bound where no unit leads is kept within too.
func TestFireFarAcross(t *testing.T) {
	c := loaded()
	c.At, c.Speed = at(0, greatest), at(0, least)
	wantShot(t, c, at(131072, api.Max), at(196608, -api.Max))
	c.At, c.Speed, c.Heading = at(-api.Max-1, 0), at(api.Max+1, 0), 192
	wantShot(t, c, at(-api.Max, -131072), at(api.Max, -196608))
}

// 16.1: any id, any player.
func TestFireNumbers(t *testing.T) {
	c := loaded()
	for _, id := range edges() {
		for _, player := range edges() {
			c.Player = player
			if got, s, ok := shot.Fire(c, id); s.Id != id || s.Player != player || got.Player != player || !ok {
				t.Fatalf("Fire by the player %d with the id %d = %+v, %+v, %v", player, id, got, s, ok)
			}
		}
	}
}

// 16.1: any car, any id.
func TestFireAny(t *testing.T) {
	times := 200000
	if testing.Short() {
		times = 5000
	}
	d := dice(2463534242)
	fired, refused := 0, 0
	for range times {
		c, id := d.car(), d.number()
		wantFire(t, c, id)
		if _, _, ok := shot.Fire(c, id); ok {
			fired++
		} else {
			refused++
		}
	}
	if min(fired, refused) < times/10 {
		t.Errorf("%d cars fired and %d did not: both must have come often", fired, refused)
	}
}
