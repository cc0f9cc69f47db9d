package car_test

import (
	"math"
	"math/big"
	"testing"

	"joust/api"
	"joust/board"
	"joust/car"
	"joust/fix"
)

// touches tells whether a wall has a place of a car's box. The box is less than a cell wide: its corners tell.
func touches(b *board.Board, p api.Vec) bool {
	if max(p.X, p.Y) > api.Max || min(p.X, p.Y) < -api.Max {
		return true // far outside, where a corner might leave an int64
	}
	left, right, above, below := p.X-half, p.X+half-1, p.Y-half, p.Y+half-1
	return b.Solid(at(left, above)) || b.Solid(at(right, above)) || b.Solid(at(left, below)) || b.Solid(at(right, below))
}

func kept(n, most int) int { return max(-most, min(n, most)) }

// faster is the steps 3 to 5 for one part of a speed, in whole numbers without a bound.
func faster(speed, unit int64, power *big.Int) int64 {
	pushed := bounded(down(new(big.Int).Mul(whole(unit), power), 65536), api.Max)
	x := bounded(plus(speed, pushed), api.Max)
	share := down(whole(x), 16)
	return bounded(share.Sub(whole(x), share), 65536)
}

// back is what a wall makes of a part of the speed.
func back(x int64) int64 { return -down(whole(x), 2).Int64() }

// plainDrive is P15.3, step by step.
func plainDrive(b *board.Board, c api.Car, i api.Intent) api.Car {
	if c.Wait > 0 {
		return c
	}
	heading := plus(int64(c.Heading), int64(kept(i.Turn, 8)))
	c.Heading = int(heading.Mod(heading, whole(256)).Int64())
	power := down(whole(int64(kept(i.Throttle, 100))*4096), 100)
	if i.Boost && c.Energy >= 4 {
		power.Add(power, power)
		c.Energy -= 4
	}
	c.Speed = at(faster(c.Speed.X, fix.Cos(c.Heading), power), faster(c.Speed.Y, fix.Sin(c.Heading), power))
	x := bounded(plus(c.At.X, c.Speed.X), api.Max)
	if touches(b, at(x, c.At.Y)) {
		c.Speed.X = back(c.Speed.X)
	} else {
		c.At.X = x
	}
	y := bounded(plus(c.At.Y, c.Speed.Y), api.Max)
	if touches(b, at(c.At.X, y)) {
		c.Speed.Y = back(c.Speed.Y)
	} else {
		c.At.Y = y
	}
	return c
}

// P15.3: answers written by hand, for the chapter's examples and hard places, about a car on free ground.
func TestDriveExamples(t *testing.T) {
	b := parsed(t, example)
	c := car.New(b, 1, "ann")
	for _, x := range []struct {
		i       api.Intent
		speed   api.Vec
		heading int
		energy  int
	}{
		{api.Intent{}, at(0, 0), 0, 100},
		{api.Intent{Throttle: 100}, at(3840, 0), 0, 100},
		{api.Intent{Throttle: 101}, at(3840, 0), 0, 100},
		{api.Intent{Throttle: math.MaxInt}, at(3840, 0), 0, 100},
		{api.Intent{Throttle: -100}, at(-3840, 0), 0, 100},
		{api.Intent{Throttle: -101}, at(-3840, 0), 0, 100},
		{api.Intent{Throttle: math.MinInt}, at(-3840, 0), 0, 100},
		{api.Intent{Throttle: 99}, at(3802, 0), 0, 100},   // 4055 - 253
		{api.Intent{Throttle: -99}, at(-3802, 0), 0, 100}, // -4056 + 254
		{api.Intent{Throttle: 50, Boost: true}, at(3840, 0), 0, 96},
		{api.Intent{Throttle: 100, Boost: true}, at(7680, 0), 0, 96},
		{api.Intent{Throttle: 1}, at(38, 0), 0, 100},               // 40 - 2
		{api.Intent{Throttle: -1}, at(-38, 0), 0, 100},             // -41 + 3
		{api.Intent{Throttle: 1, Boost: true}, at(75, 0), 0, 96},   // 80 - 5: doubled behind the rounding
		{api.Intent{Throttle: -1, Boost: true}, at(-76, 0), 0, 96}, // -82 + 6
		{api.Intent{Boost: true}, at(0, 0), 0, 96},
		{api.Intent{Turn: -8}, at(0, 0), 248, 100},
		{api.Intent{Turn: -9}, at(0, 0), 248, 100},
		{api.Intent{Turn: 8}, at(0, 0), 8, 100},
		{api.Intent{Turn: 100}, at(0, 0), 8, 100},
		{api.Intent{Turn: -1}, at(0, 0), 255, 100},
		{api.Intent{Turn: math.MaxInt}, at(0, 0), 8, 100},
		{api.Intent{Turn: math.MinInt}, at(0, 0), 248, 100},
		{api.Intent{Throttle: 100, Turn: 8}, at(3766, 750), 8, 100}, // 4017 - 251, 799 - 49
		{api.Intent{Throttle: -100, Turn: 8}, at(-3766, -750), 8, 100},
		{api.Intent{Throttle: 100, Turn: -8}, at(3766, -750), 248, 100}, // -800 + 50
		{api.Intent{Throttle: 100, Fire: true, Player: 9}, at(3840, 0), 0, 100},
	} {
		want := c
		want.Speed, want.Heading, want.Energy = x.speed, x.heading, x.energy
		want.At = at(c.At.X+x.speed.X, c.At.Y+x.speed.Y)
		if got := car.Drive(b, c, x.i); got != want {
			t.Errorf("Drive by %+v = %+v, want %+v", x.i, got, want)
		}
	}
}

// P15.3: a boost needs 4 of energy, whatever the throttle is.
func TestDriveBoost(t *testing.T) {
	b := parsed(t, example)
	for before, behind := range map[int]int{3: 3, 4: 0, 5: 1, 0: 0, -4: -4, 100: 96, 8: 4, math.MinInt: math.MinInt, math.MaxInt: math.MaxInt - 4} {
		for _, throttle := range []int{100, 0, -100} {
			c := car.New(b, 1, "ann")
			c.Energy = before
			want := c
			want.Energy = behind
			want.Speed.X = int64(throttle) * 384 / 10
			if behind != before {
				want.Speed.X *= 2
			}
			want.At.X += want.Speed.X
			wantCar(t, "Drive with a boost", car.Drive(b, c, api.Intent{Throttle: throttle, Boost: true}), want)
			want = c
			want.Speed.X = int64(throttle) * 384 / 10
			want.At.X += want.Speed.X
			wantCar(t, "Drive without a boost", car.Drive(b, c, api.Intent{Throttle: throttle}), want)
		}
	}
}

// P15.3: what becomes of a speed: its sixteenth, rounded down, is taken first, then it is kept within a unit.
func TestDriveSpeeds(t *testing.T) {
	b := parsed(t, example)
	c := car.New(b, 1, "ann")
	for before, behind := range map[int64]int64{
		0: 0, 1: 1, 15: 15, 16: 15, 17: 16, 31: 30, 32: 30, -1: 0, -2: -1, -15: -14, -16: -15, -17: -15, -18: -16,
		unit - 1: 61440, unit: 61440, unit + 1: 61441, -unit: -61440, -unit - 1: -61440,
		69000: 64688, 69904: 65535, 69905: unit, 69906: unit, 80000: unit, -69000: -64687, -69905: -65535, -69906: -unit, -69907: -unit,
		api.Max: unit, api.Max + 1: unit, -api.Max: -unit, -api.Max - 1: -unit, greatest: unit, greatest - 1: unit, least: -unit, least + 1: -unit,
	} {
		for _, across := range []int64{0, 15, -15} {
			c.Speed = at(before, across)
			got := car.Drive(b, c, api.Intent{})
			want := c
			want.Speed = at(behind, map[int64]int64{0: 0, 15: 15, -15: -14}[across])
			want.At = at(c.At.X+want.Speed.X, c.At.Y+want.Speed.Y)
			wantCar(t, "Drive along X", got, want)
			c.Speed = at(across, before)
			want.Speed = at(want.Speed.Y, want.Speed.X)
			want.At = at(c.At.X+want.Speed.X, c.At.Y+want.Speed.Y)
			wantCar(t, "Drive along Y", car.Drive(b, c, api.Intent{}), want)
		}
	}
}

// P15.3: a heading of any int, which even a turn of 0 brings to 0 to 255, and whose unit is that behind the turn.
func TestDriveHeadings(t *testing.T) {
	b := parsed(t, example)
	c := car.New(b, 1, "ann")
	for _, x := range []struct {
		heading, turn, want int
		speed               api.Vec
	}{
		{0, 0, 0, at(3840, 0)}, {64, 0, 64, at(0, 3840)}, {128, 0, 128, at(-3840, 0)}, {192, 0, 192, at(0, -3840)}, {256, 0, 0, at(3840, 0)}, {255, 1, 0, at(3840, 0)},
		{-64, 0, 192, at(0, -3840)}, {56, 8, 64, at(0, 3840)}, {72, -8, 64, at(0, 3840)}, {4, -8, 252, at(3822, -376)}, {1 << 40, 0, 0, at(3840, 0)},
		{math.MaxInt, 1, 0, at(3840, 0)}, {math.MaxInt - 7, 8, 0, at(3840, 0)}, {math.MinInt, 0, 0, at(3840, 0)}, {math.MinInt + 8, -8, 0, at(3840, 0)}, {math.MinInt, -8, 248, at(3766, -750)}, {math.MaxInt, 8, 7, at(3783, 657)},
	} {
		c.Heading = x.heading
		want := c
		want.Heading, want.Speed = x.want, x.speed
		want.At = at(c.At.X+x.speed.X, c.At.Y+x.speed.Y)
		wantCar(t, "Drive", car.Drive(b, c, api.Intent{Throttle: 100, Turn: x.turn}), want)
	}
}

// P15.3: walls in X, in Y and in corners, up to the last free place, and one raw place beyond it.
func TestDriveWalls(t *testing.T) {
	b := parsed(t, pillar)
	const low, high = side + half, 6*side - half // the first and the last place of a car between the rim's walls
	const left, right = 3*side - half, 4*side + half
	for _, x := range []struct {
		what               string
		at, speed          api.Vec
		wantAt, wantSpeed  api.Vec
		blockedX, blockedY bool
	}{
		{"a wall on the left", at(low, 2*side), at(-160, 160), at(low, 2*side+150), at(75, 150), true, false},
		{"just up to it", at(low+150, 2*side), at(-160, 0), at(low, 2*side), at(-150, 0), false, false},
		{"one place too near", at(low+149, 2*side), at(-160, 0), at(low+149, 2*side), at(75, 0), true, false},
		{"a wall on the right", at(high, 2*side), at(160, 160), at(high, 2*side+150), at(-75, 150), true, false},
		{"just up to the right", at(high-150, 2*side), at(160, 0), at(high, 2*side), at(150, 0), false, false},
		{"too near on the right", at(high-149, 2*side), at(160, 0), at(high-149, 2*side), at(-75, 0), true, false},
		{"a wall above", at(2*side, low), at(160, -160), at(2*side+150, low), at(150, 75), false, true},
		{"just up to it from below", at(2*side, low+150), at(0, -160), at(2*side, low), at(0, -150), false, false},
		{"too near from below", at(2*side, low+149), at(0, -160), at(2*side, low+149), at(0, 75), false, true},
		{"a wall below", at(2*side, high), at(-160, 160), at(2*side-150, high), at(-150, -75), false, true},
		{"just down to it", at(2*side, high-150), at(0, 160), at(2*side, high), at(0, 150), false, false},
		{"too near from above", at(2*side, high-149), at(0, 160), at(2*side, high-149), at(0, -75), false, true},
		{"the corner on the left above", at(low, low), at(-160, -160), at(low, low), at(75, 75), true, true},
		{"the corner on the right below", at(high, high), at(160, 160), at(high, high), at(-75, -75), true, true},
		{"along two walls", at(low, low), at(160, 160), at(low+150, low+150), at(150, 150), false, false},
		{"onto a corner: X goes, then Y is blocked", at(left, left), at(160, 160), at(left+150, left), at(150, -75), false, true},
		{"onto the opposite corner", at(right, right), at(-160, -160), at(right-150, right), at(-150, 75), false, true},
		{"X leads away, then Y is free", at(left+100, left), at(-160, 160), at(left-50, left+150), at(-150, 150), false, false},
		{"X is blocked, Y leads away too late", at(left, left+100), at(160, -160), at(left, left-50), at(-75, -150), true, false},
		{"one raw place to the right", at(high, 2*side), at(1, 0), at(high, 2*side), at(0, 0), true, false},
		{"one raw place to the left", at(low, 2*side), at(-2, 0), at(low, 2*side), at(1, 0), true, false},
		{"two raw places to the left", at(low, 2*side), at(-3, 0), at(low, 2*side), at(1, 0), true, false},
		{"three raw places to the right", at(high, 2*side), at(3, 0), at(high, 2*side), at(-1, 0), true, false},
		{"one raw place downwards", at(2*side, high), at(0, 1), at(2*side, high), at(0, 0), false, true},
		{"one raw place upwards", at(2*side, low), at(0, -2), at(2*side, low), at(0, 1), false, true},
		{"at full speed", at(high, low), at(greatest, least), at(high, low), at(-32768, 32768), true, true},
		{"in a wall, out of it", at(low-100, 2*side), at(160, 0), at(low+50, 2*side), at(150, 0), false, false},
		{"in a wall, not out of it", at(low-151, 2*side), at(160, 160), at(low-151, 2*side), at(-75, -75), true, true},
	} {
		c := api.Car{Player: 3, Name: "ann", At: x.at, Speed: x.speed, Health: 7, Energy: 3, Ammo: 2, Cool: 5, Spawns: 6, Score: 1}
		want := c
		want.At, want.Speed = x.wantAt, x.wantSpeed
		wantCar(t, x.what, car.Drive(b, c, api.Intent{}), want)
		if (want.At.X == c.At.X) != (x.blockedX || x.wantSpeed.X == 0) || (want.At.Y == c.At.Y) != (x.blockedY || x.wantSpeed.Y == 0) {
			t.Errorf("%s: the line contradicts itself", x.what)
		}
	}
}

// P15.3: far outside all is wall: a car stays there, even where the sum leaves the bounds.
func TestDriveFarOutside(t *testing.T) {
	b := parsed(t, example)
	for _, p := range []api.Vec{
		units(-500, 9000), at(least, least), at(greatest, greatest), at(least, greatest), at(greatest, least), at(least, 20*unit), at(20*unit, greatest),
		at(api.Max, api.Max), at(-api.Max, -api.Max), at(api.Max+1, -api.Max-1), at(1<<32+20*unit, 20*unit), at(20*unit, 1<<32+20*unit), at(-20*unit, 20*unit),
	} {
		c := api.Car{At: p, Speed: at(3, -3), Energy: 3, Wait: -1}
		want := c
		want.Speed = at(-1, 1)
		wantCar(t, "Drive outside", car.Drive(b, c, api.Intent{}), want)
		c.Speed = at(greatest, least)
		want.Speed = at(-32768, 32768)
		wantCar(t, "Drive outside, fast", car.Drive(b, c, api.Intent{Throttle: 100}), want)
	}
}

// P15.3: a wreck stays as it is; Wait at 0 and below is none.
func TestDriveWreck(t *testing.T) {
	b := parsed(t, example)
	c := api.Car{Player: 2, Name: "x", At: units(20, 20), Speed: at(160, -160), Heading: 300, Energy: 50, Health: 0}
	for _, wait := range []int{1, 2, 40, 41, math.MaxInt} {
		c.Wait = wait
		wantCar(t, "Drive of a wreck", car.Drive(b, c, api.Intent{Throttle: 100, Turn: 8, Boost: true, Fire: true}), c)
	}
	for _, wait := range []int{0, -1, -40, math.MinInt} {
		c.Wait = wait
		want := c
		want.Heading, want.Speed, want.At = 44, at(150, -150), at(20*unit+150, 20*unit-150)
		wantCar(t, "Drive of no wreck", car.Drive(b, c, api.Intent{}), want)
	}
}

// P15.3: every throttle, with every turn, with and without a boost.
func TestDriveEveryIntent(t *testing.T) {
	b := parsed(t, example)
	c := car.New(b, 1, "ann")
	for throttle := -102; throttle <= 102; throttle++ {
		for turn := -10; turn <= 10; turn++ {
			for _, boost := range []bool{false, true} {
				i := api.Intent{Throttle: throttle, Turn: turn, Boost: boost}
				c.Heading = throttle * turn
				if got, want := car.Drive(b, c, i), plainDrive(b, c, i); got != want {
					t.Fatalf("Drive(%+v, %+v) = %+v, want %+v", c, i, got, want)
				}
			}
		}
	}
}

// moved asks for what follows of a drive (P15.7): not into a wall, and at most a unit of speed and of way.
func moved(t *testing.T, b *board.Board, before, behind api.Car) {
	t.Helper()
	if before.Wait > 0 {
		return
	}
	for _, x := range [][3]int64{{before.At.X, behind.At.X, behind.Speed.X}, {before.At.Y, behind.At.Y, behind.Speed.Y}} {
		way := new(big.Int).Sub(whole(x[1]), whole(x[0]))
		if way.CmpAbs(whole(unit)) > 0 || max(x[2], -x[2]) > unit {
			t.Fatalf("%+v has become %+v: too fast, or too far", before, behind)
		}
	}
	if !b.Blocked(before.At, half) && b.Blocked(behind.At, half) {
		t.Fatalf("%q: %+v has become %+v, in a wall", b.Print(), before, behind)
	}
	if behind.At != before.At && b.Blocked(behind.At, half) {
		t.Fatalf("%q: %+v moved into a wall: %+v", b.Print(), before, behind)
	}
}

// P15.3, P15.7: any car by any intent.
func TestDriveAny(t *testing.T) {
	times := 20000
	if testing.Short() {
		times = 1000
	}
	d := dice(2463534242)
	for _, b := range boards(t) {
		for range times {
			c, i := d.car(b), d.intent()
			got := car.Drive(b, c, i)
			if want := plainDrive(b, c, i); got != want {
				t.Fatalf("%q: Drive(%+v, %+v) = %+v, want %+v", b.Print(), c, i, got, want)
			}
			moved(t, b, c, got)
		}
	}
}

// P15.3, P15.7: cars that drive on and on, tick by tick, into walls on all sides and past them.
func TestDriveTickByTick(t *testing.T) {
	ticks := 6000
	if testing.Short() {
		ticks = 600
	}
	d := dice(4101842887655102017)
	inX, inY, inBoth, free := 0, 0, 0, 0
	for _, b := range boards(t) {
		c := car.New(b, d.below(32), "ann")
		i := d.intent()
		for tick := range ticks {
			if d.below(16) == 0 {
				i = d.intent()
			}
			before := c
			c = car.Drive(b, c, i)
			if want := plainDrive(b, before, i); c != want {
				t.Fatalf("%q: tick %d: Drive(%+v, %+v) = %+v, want %+v", b.Print(), tick, before, i, c, want)
			}
			moved(t, b, before, c)
			if b.Blocked(c.At, half) {
				t.Fatalf("%q: tick %d: %+v is in a wall", b.Print(), tick, c)
			}
			stayX, stayY := c.At.X == before.At.X && c.Speed.X != 0, c.At.Y == before.At.Y && c.Speed.Y != 0
			switch {
			case stayX && stayY:
				inBoth++
			case stayX:
				inX++
			case stayY:
				inY++
			default:
				free++
			}
			c = car.Rest(b, c, uint64(tick))
		}
	}
	if inX == 0 || inY == 0 || inBoth == 0 || free == 0 {
		t.Errorf("walls in X %d times, in Y %d, in both %d, none %d: each must have come", inX, inY, inBoth, free)
	}
}
