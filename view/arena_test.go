package view_test

import (
	"testing"

	"joust/api"
	"joust/board"
	"joust/rule"
)

// hall has three spawns and room to drive and to fly.
const hall = "################\n#S.E..........S#\n#..............#\n#A.............#\n#..............#\n#..............#\n#S.............#\n################\n"

// played is an arena behind one label more.
func played(t *testing.T, b *board.Board, s api.State, l api.Label) api.State {
	t.Helper()
	s, e := rule.Step(b, s, l)
	if e != api.OK {
		t.Fatalf("Step(%+v): %v", l, e)
	}
	return s
}

func (d *dice) intents(s api.State) []api.Intent {
	var list []api.Intent
	for _, c := range s.Cars {
		if !d.one(5) {
			list = append(list, api.Intent{Player: c.Player, Throttle: d.below(201) - 100, Turn: d.below(17) - 8, Fire: d.one(2), Boost: d.one(3)})
		}
	}
	return list
}

// R9: in matches that the Rulebook plays, with all that drives, flies, is a wreck, comes and goes: the views of all players, at every tick, as a plain look has them.
func TestViewsOfMatches(t *testing.T) {
	matches, ticks := 4, 400
	if testing.Short() {
		matches, ticks = 2, 100
	}
	b, e := board.Parse(hall)
	if e != api.OK {
		t.Fatal(e)
	}
	d := dice(2463534242)
	wrecks, shots, cut := 0, 0, 0
	for range matches {
		s := rule.Empty()
		for p := range 20 {
			s = played(t, b, s, api.Label{Kind: api.LbJoin, Player: p, Name: "p"})
		}
		for tick := range ticks {
			s = played(t, b, s, api.Label{Kind: api.LbTick, Intents: d.intents(s)})
			if tick%50 == 49 {
				p := s.Cars[d.below(len(s.Cars))].Player
				s = played(t, b, s, api.Label{Kind: api.LbLeave, Player: p})
			}
			radius, show := d.of(8, 16, 40, 200), d.of(4, 12, 32)
			if tick%4 == 0 {
				wantPlain(t, s, radius, show)
			}
			for _, c := range s.Cars {
				wrecks += min(c.Wait, 1)
				if len(plainNear(s, c, radius)) > show {
					cut++
				}
			}
			shots += len(s.Shots)
		}
	}
	if wrecks < ticks || shots < 8*ticks || cut < ticks {
		t.Errorf("%d wrecks, %d shots, %d views with too much to see alone", wrecks, shots, cut)
	}
}
