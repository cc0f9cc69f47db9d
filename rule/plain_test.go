package rule_test

import (
	"slices"

	"joust/api"
	"joust/board"
	"joust/fix"
)

// This file is R8, with what chapters 15, 16 and 17 say more of it, word by word. It asks neither the Rulebook nor the layers of cars and shots.

// plainStep is what a label makes of a state.
func plainStep(b *board.Board, s api.State, l api.Label) (api.State, api.Errno) {
	if e := plainError(s, l); e != api.OK {
		return api.State{}, e
	}
	s = twin(s)
	switch l.Kind {
	case api.LbJoin:
		return plainJoin(b, s, l), api.OK
	case api.LbLeave:
		return plainLeave(s, l.Player), api.OK
	}
	return plainTick(b, s, l.Intents), api.OK
}

func plainError(s api.State, l api.Label) api.Errno {
	players := map[int]int{}
	for _, c := range s.Cars {
		players[c.Player]++
	}
	switch l.Kind {
	case 1:
		if len(l.Intents) != 0 {
			return 171
		}
		if l.Player <= -1 || l.Player >= 32 || players[l.Player] > 0 {
			return 170
		}
	case 2:
		if len(l.Intents) != 0 || l.Name != "" {
			return 171
		}
		if players[l.Player] == 0 {
			return 170
		}
	case 3:
		if l.Player != 0 || l.Name != "" {
			return 171
		}
		return plainIntents(players, l.Intents)
	default:
		return 171
	}
	return 0
}

func plainIntents(players map[int]int, list []api.Intent) api.Errno {
	for n := range list {
		for m := range n {
			if list[m].Player >= list[n].Player {
				return 171
			}
		}
		if players[list[n].Player] == 0 || list[n].Throttle != kept(list[n].Throttle, 100) || list[n].Turn != kept(list[n].Turn, 8) {
			return 171
		}
	}
	return 0
}

func kept(n, most int) int { return max(-most, min(n, most)) }

// spawnOf is the spawn of a number, modulo how many there are, from 0 on.
func spawnOf(b *board.Board, n int) api.Vec {
	list := b.Spawns()
	return list[whole(0).Mod(whole(int64(n)), whole(int64(len(list)))).Int64()]
}

// freshCar is a car of a player that comes for so many times, at its spawn. Sums of ints wrap round.
func freshCar(b *board.Board, player, spawns int) api.Car {
	return api.Car{Player: player, At: spawnOf(b, player+spawns), Health: 100, Energy: 100, Ammo: 20, Spawns: spawns}
}

func plainJoin(b *board.Board, s api.State, l api.Label) api.State {
	c := freshCar(b, l.Player, 0)
	c.Name = l.Name
	var cars []api.Car
	laid := false
	for _, other := range s.Cars {
		if !laid && other.Player > l.Player {
			cars, laid = append(cars, c), true
		}
		cars = append(cars, other)
	}
	if !laid {
		cars = append(cars, c)
	}
	s.Cars = cars
	return s
}

func plainLeave(s api.State, player int) api.State {
	var cars []api.Car
	gone := false
	for _, c := range s.Cars {
		if c.Player == player && !gone {
			gone = true
			continue
		}
		cars = append(cars, c)
	}
	var shots []api.Shot
	for _, x := range s.Shots {
		if x.Player != player {
			shots = append(shots, x)
		}
	}
	s.Cars, s.Shots = cars, shots
	return s
}

// plainTick is the seven lines, one after the other.
func plainTick(b *board.Board, s api.State, list []api.Intent) api.State {
	intents := map[int]api.Intent{}
	for _, i := range list {
		intents[i.Player] = i
	}
	for i := range s.Cars { // 1
		if c := &s.Cars[i]; c.Wait > 0 {
			c.Wait = c.Wait - 1
			if c.Wait == 0 {
				came := freshCar(b, c.Player, c.Spawns+1)
				came.Name, came.Score = c.Name, c.Score
				*c = came
			}
		}
	}
	for i, c := range s.Cars { // 2
		if c.Wait <= 0 {
			s.Cars[i] = plainDrive(b, c, intents[c.Player])
		}
	}
	for i := range s.Cars { // 3
		if c := &s.Cars[i]; intents[c.Player].Fire && c.Wait <= 0 && c.Cool == 0 && c.Ammo >= 1 && c.Energy >= 8 && len(s.Shots) < 64 {
			x, y := fix.Cos(c.Heading), fix.Sin(c.Heading)
			place := at(sum(c.At.X, 2*x), sum(c.At.Y, 2*y))
			speed := at(sum(c.Speed.X, 3*x), sum(c.Speed.Y, 3*y))
			s.Shots = append(s.Shots, api.Shot{Id: s.Next, Player: c.Player, At: place, Speed: speed, Left: 48})
			s.Next, c.Ammo, c.Energy, c.Cool = s.Next+1, c.Ammo-1, c.Energy-8, 8
		}
	}
	s.Shots = plainFly(b, s) // 4
	for i := range s.Cars {  // 5
		for j := range s.Cars {
			if x, y := &s.Cars[i], &s.Cars[j]; i < j && x.Wait <= 0 && y.Wait <= 0 && near(x.At, y.At, 163840) {
				x.Speed, y.Speed = y.Speed, x.Speed
			}
		}
	}
	for i, c := range s.Cars { // 6
		if c.Wait <= 0 {
			s.Cars[i] = plainRest(b, c, s.Tick+1)
		}
	}
	s.Tick = s.Tick + 1 // 7
	return s
}

// plainDrive is line 2 for one car that is no wreck.
func plainDrive(b *board.Board, c api.Car, i api.Intent) api.Car {
	heading := whole(int64(c.Heading))
	heading.Add(heading, whole(int64(i.Turn)))
	c.Heading = int(heading.Mod(heading, whole(256)).Int64())
	power := down(whole(int64(i.Throttle)*4096), 100).Int64()
	if i.Boost && c.Energy >= 4 {
		power, c.Energy = 2*power, c.Energy-4
	}
	c.Speed = at(faster(c.Speed.X, fix.Cos(c.Heading), power), faster(c.Speed.Y, fix.Sin(c.Heading), power))
	if to := at(sum(c.At.X, c.Speed.X), c.At.Y); touches(b, to) {
		c.Speed.X = -down(whole(c.Speed.X), 2).Int64()
	} else {
		c.At = to
	}
	if to := at(c.At.X, sum(c.At.Y, c.Speed.Y)); touches(b, to) {
		c.Speed.Y = -down(whole(c.Speed.Y), 2).Int64()
	} else {
		c.At = to
	}
	return c
}

// faster is one part of a speed: pushed, less its sixteenth, kept within one unit.
func faster(speed, way, power int64) int64 {
	x := sum(speed, down(whole(way*power), 65536).Int64())
	return bounded(whole(x-down(whole(x), 16).Int64()), 65536)
}

// touches tells whether a wall has a place of a car's box. The box is less than a cell wide: its corners tell.
func touches(b *board.Board, p api.Vec) bool {
	if max(p.X, p.Y) > api.Max || min(p.X, p.Y) < -api.Max {
		return true // far outside, where a corner might leave an int64
	}
	left, right, above, below := p.X-half, p.X+half-1, p.Y-half, p.Y+half-1
	return b.Solid(at(left, above)) || b.Solid(at(right, above)) || b.Solid(at(left, below)) || b.Solid(at(right, below))
}

// plainFly is line 4: it changes the cars of the state and answers the shots that are left.
func plainFly(b *board.Board, s api.State) []api.Shot {
	var left []api.Shot
	for _, x := range s.Shots {
		gone := false
		for n := 0; n < 4 && !gone; n++ {
			x.At = at(sum(x.At.X, down(whole(x.Speed.X), 4).Int64()), sum(x.At.Y, down(whole(x.Speed.Y), 4).Int64()))
			gone = b.Solid(x.At) || plainHit(s.Cars, x)
		}
		if gone {
			continue
		}
		x.Left = x.Left - 1
		if x.Left > 0 {
			left = append(left, x)
		}
	}
	return left
}

// plainHit tells whether a shot hits a car where it is, and does to the cars what that does.
func plainHit(cars []api.Car, x api.Shot) bool {
	for i := range cars {
		c := &cars[i]
		if c.Wait > 0 || c.Player == x.Player || !near(c.At, x.At, 98304) {
			continue
		}
		if c.Health > 20 {
			c.Health = c.Health - 20
			return true
		}
		c.Health, c.Wait, c.Speed = 0, 40, at(0, 0)
		owner := slices.IndexFunc(cars, func(c api.Car) bool { return c.Player == x.Player })
		if owner != -1 {
			cars[owner].Score = cars[owner].Score + 1
		}
		return true
	}
	return false
}

// plainRest is line 6 for one car that is no wreck.
func plainRest(b *board.Board, c api.Car, number uint64) api.Car {
	if c.Cool > 0 {
		c.Cool = c.Cool - 1
	}
	more := 1
	if b.At(c.At) == 'E' {
		more = 5
	}
	if c.Energy > 100-more {
		c.Energy = 100
	} else {
		c.Energy = c.Energy + more
	}
	if b.At(c.At) == 'A' && number%8 == 0 {
		if c.Ammo >= 20 {
			c.Ammo = 20
		} else {
			c.Ammo = c.Ammo + 1
		}
	}
	return c
}
