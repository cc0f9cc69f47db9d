package rule

import (
	"cmp"
	"slices"

	"joust/api"
	"joust/board"
	"joust/car"
	"joust/shot"
)

func (t tick) refusal(s *api.State) api.Errno {
	for n, i := range t.intents {
		rises := n == 0 || i.Player > t.intents[n-1].Player
		if !rises || !legal(i) || !there(s.Cars, i.Player) {
			return api.ErrLabel
		}
	}
	return api.OK
}

// do goes through the seven lines of a tick, each of them to its end ahead of the next.
func (t tick) do(b *board.Board, s *api.State) {
	names := bare(s.Cars)
	come(b, s.Cars)
	t.drive(b, s.Cars)
	t.fire(s)
	fly(b, s)
	bump(s.Cars)
	rest(b, s.Cars, s.Tick+1)
	s.Tick++
	for i, name := range names {
		s.Cars[i].Name = name
	}
}

func legal(i api.Intent) bool {
	return i.Throttle >= -api.TopPower && i.Throttle <= api.TopPower && i.Turn >= -api.TopTurn && i.Turn <= api.TopTurn
}

// bare takes the cars' names off and tells them. The layers below copy a car's name with every answer: a long one would be copied for each pair of cars.
func bare(cars []api.Car) []string {
	names := make([]string, len(cars))
	for i := range cars {
		names[i], cars[i].Name = cars[i].Name, ""
	}
	return names
}

// intent is that of a player, or one of nothing.
func (t tick) intent(player int) api.Intent {
	place, is := slices.BinarySearchFunc(t.intents, player, func(i api.Intent, player int) int {
		return cmp.Compare(i.Player, player)
	})
	if !is {
		return api.Intent{}
	}
	return t.intents[place]
}

// come brings wrecks nearer to their coming.
func come(b *board.Board, cars []api.Car) {
	for i, c := range cars {
		if !wreck(c) {
			continue
		}
		c.Wait--
		if c.Wait == 0 {
			c = car.Come(b, c)
		}
		cars[i] = c
	}
}

func (t tick) drive(b *board.Board, cars []api.Car) {
	for i, c := range cars {
		cars[i] = car.Drive(b, c, t.intent(c.Player))
	}
}

func (t tick) fire(s *api.State) {
	for i, c := range s.Cars {
		if len(s.Shots) >= api.MaxShots {
			return
		}
		if !t.intent(c.Player).Fire {
			continue
		}
		c, x, is := shot.Fire(c, s.Next)
		if is {
			s.Cars[i] = c
			s.Shots = append(s.Shots, x)
			s.Next++
		}
	}
}

// fly moves all shots and keeps those that fly on.
func fly(b *board.Board, s *api.State) {
	left := s.Shots[:0]
	for _, x := range s.Shots {
		x, hit, on := shot.Move(b, s.Cars, x)
		if hit >= 0 {
			strike(s.Cars, hit, x.Player)
		}
		if on {
			left = append(left, x)
		}
	}
	s.Shots = left
}

// strike hurts the car at a place of the list. No wreck is ever hit: where the car is one behind the hit, the hit has made it so.
func strike(cars []api.Car, hit, shooter int) {
	cars[hit] = car.Hit(cars[hit], api.Hurt)
	if owner := first(cars, shooter); owner >= 0 && wreck(cars[hit]) {
		cars[owner].Score++
	}
}

func bump(cars []api.Car) {
	for i := range cars {
		for j := i + 1; j < len(cars); j++ {
			cars[i], cars[j], _ = car.Bump(cars[i], cars[j])
		}
	}
}

func rest(b *board.Board, cars []api.Car, number uint64) {
	for i, c := range cars {
		cars[i] = car.Rest(b, c, number)
	}
}

func wreck(c api.Car) bool { return c.Wait > 0 }
