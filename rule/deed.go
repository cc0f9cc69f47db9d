package rule

import (
	"slices"

	"joust/api"
	"joust/board"
	"joust/car"
)

// deed is what a label does.
type deed interface {
	refusal(s *api.State) api.Errno  // why it may not be done to that arena
	do(b *board.Board, s *api.State) // asked only where there is no refusal
}

// join lets a player's car come.
type join struct {
	player int
	name   string
}

// leave lets a player's car and shots go.
type leave struct{ player int }

// tick moves all that is there.
type tick struct{ intents []api.Intent }

// obey lets a label change an arena; one that is refused leaves it as it was.
func obey(b *board.Board, s *api.State, l api.Label) api.Errno {
	d := meant(l)
	if !plain(d, l) {
		return api.ErrLabel
	}
	if e := d.refusal(s); e != api.OK {
		return e
	}
	d.do(b, s)
	return api.OK
}

// meant is the deed of a label's kind, or none.
func meant(l api.Label) deed {
	switch l.Kind {
	case api.LbJoin:
		return join{l.Player, l.Name}
	case api.LbLeave:
		return leave{l.Player}
	case api.LbTick:
		return tick{l.Intents}
	}
	return nil
}

// plain tells whether a label has nothing beside what its deed asks for. Of no deed none is plain.
func plain(d deed, l api.Label) bool {
	switch d.(type) {
	case join:
		return len(l.Intents) == 0
	case leave:
		return len(l.Intents) == 0 && l.Name == ""
	case tick:
		return l.Player == 0 && l.Name == ""
	}
	return false
}

func (j join) refusal(s *api.State) api.Errno {
	if j.player < 0 || j.player >= api.MaxSessions || there(s.Cars, j.player) {
		return api.ErrPlayer
	}
	return api.OK
}

func (j join) do(b *board.Board, s *api.State) {
	place := slices.IndexFunc(s.Cars, func(c api.Car) bool { return c.Player > j.player })
	if place < 0 {
		place = len(s.Cars)
	}
	s.Cars = slices.Insert(s.Cars, place, car.New(b, j.player, j.name))
}

func (l leave) refusal(s *api.State) api.Errno {
	if !there(s.Cars, l.player) {
		return api.ErrPlayer
	}
	return api.OK
}

func (l leave) do(_ *board.Board, s *api.State) {
	place := first(s.Cars, l.player)
	s.Cars = slices.Delete(s.Cars, place, place+1)
	s.Shots = slices.DeleteFunc(s.Shots, func(x api.Shot) bool { return x.Player == l.player })
}

// first is the place in the list of a player's first car; below 0: there is none.
func first(cars []api.Car, player int) int {
	return slices.IndexFunc(cars, func(c api.Car) bool { return c.Player == player })
}

func there(cars []api.Car, player int) bool { return first(cars, player) >= 0 }
