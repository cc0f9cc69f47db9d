package car

import (
	"joust/api"
	"joust/board"
	"joust/fix"
	"joust/vec"
)

const (
	half  = 98304 // of the side of a car's box
	full  = 4096  // the power of the greatest throttle
	boost = 4     // energy that doubled power takes
	drag  = 4     // bits by which a speed is shifted for the share that it loses
)

// drive is a car within its tick, with all that one step leaves to the next.
type drive struct {
	board  *board.Board
	car    api.Car
	intent api.Intent
	power  int64
}

// Drive moves a car for a tick.
func Drive(b *board.Board, c api.Car, i api.Intent) api.Car {
	c = own(c)
	if wreck(c) {
		return c
	}
	d := &drive{board: b, car: c, intent: i}
	for _, step := range []func(){d.steer, d.fuel, d.boost, d.push, d.slow, d.limit, d.moveX, d.moveY} {
		step()
	}
	return d.car
}

func (d *drive) steer() {
	turn := min(max(d.intent.Turn, -api.TopTurn), api.TopTurn)
	d.car.Heading = vec.Turn(d.car.Heading, turn)
}

// fuel finds the power, rounded down. It is reckoned from full power backwards on, where nothing lies below 0: there cutting is rounding down.
func (d *drive) fuel() {
	throttle := fix.Clamp(int64(d.intent.Throttle), -api.TopPower, api.TopPower)
	d.power = (throttle+api.TopPower)*full/api.TopPower - full
}

func (d *drive) boost() {
	if d.intent.Boost && d.car.Energy >= boost {
		d.power *= 2
		d.car.Energy -= boost
	}
}

func (d *drive) push() {
	d.car.Speed = vec.Add(d.car.Speed, vec.Scale(vec.Unit(d.car.Heading), d.power))
}

func (d *drive) slow() {
	d.car.Speed.X -= d.car.Speed.X >> drag
	d.car.Speed.Y -= d.car.Speed.Y >> drag
}

func (d *drive) limit() { d.car.Speed = vec.Cap(d.car.Speed, api.One) }

func (d *drive) moveX() {
	to := d.car.At
	to.X = fix.Add(to.X, d.car.Speed.X)
	d.move(to, &d.car.Speed.X)
}

func (d *drive) moveY() {
	to := d.car.At
	to.Y = fix.Add(to.Y, d.car.Speed.Y)
	d.move(to, &d.car.Speed.Y)
}

// move lays the car at a place, or, where a wall is in the way, throws back the part of its speed that led there.
func (d *drive) move(to api.Vec, speed *int64) {
	if d.board.Blocked(to, half) {
		*speed = -(*speed >> 1)
		return
	}
	d.car.At = to
}
