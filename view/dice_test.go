package view_test

import (
	"math"

	"joust/api"
)

// dice give numbers that look like chance and are the same in every run.
type dice uint64

func (d *dice) word() uint64 {
	*d ^= *d << 13
	*d ^= *d >> 7
	*d ^= *d << 17
	return uint64(*d) * 0x2545f4914f6cdd1d
}

func (d *dice) below(n int) int { return int(d.word() >> 20 % uint64(n)) }

func (d *dice) one(n int) bool { return d.below(n) == 0 }

// of gives one of some numbers.
func (d *dice) of(numbers ...int) int { return numbers[d.below(len(numbers))] }

// number gives any int, small ones as often as great ones, and the ends.
func (d *dice) number() int {
	if d.one(4) {
		return d.of(math.MinInt, math.MaxInt, math.MinInt+1, math.MaxInt-1, -1, 0, 1, 1<<32, 1<<40)
	}
	return int(d.word()) >> d.below(64)
}

// about is a number at most wide away from another one, as far as there are numbers.
func (d *dice) about(x, wide int64) int64 {
	by := d.word() % (uint64(wide) + 1)
	if d.one(2) {
		return x - int64(min(by, uint64(x)-1<<63))
	}
	return x + int64(min(by, 1<<63-1-uint64(x)))
}

// place gives one about a hub, mostly whole units away, so that many are equally far away; at times anywhere.
func (d *dice) place(hub api.Vec) api.Vec {
	switch d.below(12) {
	case 0:
		return at(int64(d.number()), int64(d.number()))
	case 1:
		return at(d.about(hub.X, 3), d.about(hub.Y, 3))
	case 2:
		return at(d.about(hub.X, 3*unit), d.about(hub.Y, 3*unit))
	case 3:
		return at(d.about(hub.X, 1024*unit), d.about(hub.Y, 2))
	case 4:
		return hub
	}
	return at(hub.X+d.about(0, 3)*unit, hub.Y+d.about(0, 3)*unit)
}

func (d *dice) car(player int, hub api.Vec) api.Car {
	return api.Car{
		Player:  player,
		Name:    []string{"", "ann", "bob", "\u03b1-\u00e9", "\xff\x00"}[d.below(5)],
		At:      d.place(hub),
		Speed:   at(int64(d.number()), int64(d.number())),
		Heading: d.of(0, 64, 255, d.number()),
		Health:  d.of(100, 0, d.number()),
		Energy:  d.number(),
		Ammo:    d.number(),
		Cool:    d.of(0, 8, d.number()),
		Wait:    d.of(0, 0, 0, 0, 0, 0, 1, 40, -1, d.number()),
		Spawns:  d.number(),
		Score:   d.number(),
	}
}

func (d *dice) shot(id, player int, hub api.Vec) api.Shot {
	return api.Shot{Id: id, Player: player, At: d.place(hub), Speed: at(int64(d.number()), int64(d.number())), Left: d.of(48, 1, d.number())}
}

// hub gives a place about which a state's entities lie; sums with some units do wrap round at the ends, which is another place then.
func (d *dice) hub() api.Vec {
	part := func() int64 {
		return int64(d.of(0, 0, 100*unit, -1, 1<<40, -1<<40, least, greatest, least+2*unit, greatest-unit))
	}
	return at(part(), part())
}

// id gives a number of few, so that one stands twice often, at times one of any size.
func (d *dice) id(few int) int {
	if d.one(10) {
		return d.number()
	}
	return d.below(few) - few/6
}

// state gives one such as no run makes: few entities mostly, more than can be shown at times.
func (d *dice) state() api.State {
	s := api.State{Tick: uint64(d.number()), Next: d.number()}
	hub, cars, shots := d.hub(), d.below(7), d.below(9)
	if d.one(8) {
		cars, shots = d.below(50), d.below(90)
	}
	for range cars {
		s.Cars = append(s.Cars, d.car(d.id(2*cars), hub))
	}
	for range shots {
		s.Shots = append(s.Shots, d.shot(d.id(2*shots), d.id(2*cars+1), hub))
	}
	return s
}

// fair gives a state without two cars of one Player and without two shots of one Id, in any order.
func (d *dice) fair() api.State {
	s := api.State{Tick: uint64(d.number()), Next: d.number()}
	hub, cars, shots := d.hub(), 1+d.below(7), d.below(12)
	if d.one(8) {
		cars, shots = 1+d.below(32), d.below(65)
	}
	for i := range cars {
		s.Cars = append(s.Cars, d.car(i*3-4, hub))
	}
	for i := range shots {
		s.Shots = append(s.Shots, d.shot(i*2-3, d.below(cars), hub))
	}
	for i := range s.Cars {
		k := d.below(i + 1)
		s.Cars[i], s.Cars[k] = s.Cars[k], s.Cars[i]
	}
	for i := range s.Shots {
		k := d.below(i + 1)
		s.Shots[i], s.Shots[k] = s.Shots[k], s.Shots[i]
	}
	return s
}

func (d *dice) radius() int {
	if d.one(6) {
		return d.number()
	}
	return d.of(0, 1, 2, 3, 4, 5, 1023, 1024, 1025)
}

func (d *dice) show() int {
	if d.one(6) {
		return d.number()
	}
	return d.of(0, 1, 1, 2, 2, 3, 4, 5, 8, 31, 32, 33)
}
