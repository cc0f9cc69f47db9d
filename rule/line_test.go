package rule_test

import (
	"math"
	"testing"

	"joust/api"
	"joust/rule"
)

// Lines 2, 3 and 6: a boost takes its energy ahead of the shot, and rest brings some behind it.
func TestLineEnergy(t *testing.T) {
	b := parsed(t, hall)
	for _, x := range []struct {
		energy, then, next int
		boost              bool
	}{
		{12, 1, 1, true}, {11, 8, 0, true}, {8, 5, 0, true}, {4, 1, 0, true}, {3, 4, 0, true},
		{12, 5, 1, false}, {8, 1, 1, false}, {7, 8, 0, false},
	} {
		c := parked(0, "ann", units(60, 30))
		c.Energy = x.energy
		got := stepped(t, b, api.State{Cars: cars(c)}, tickOf(api.Intent{Boost: x.boost, Fire: true}))
		if got.Cars[0].Energy != x.then || got.Next != x.next || len(got.Shots) != x.next || got.Cars[0].Ammo != 20-x.next {
			t.Errorf("Energy %d, boost %v: %+v, want Energy %d, Next %d", x.energy, x.boost, got, x.then, x.next)
		}
	}
}

// Line 3: only a car whose own intent fires does, with Cool 0 and ammunition.
func TestLineFire(t *testing.T) {
	b := parsed(t, hall)
	one, two := parked(2, "ann", units(60, 14)), parked(7, "bob", units(60, 50))
	for _, x := range []struct {
		what   string
		cool   int
		ammo   int
		intent []api.Intent
		by     []int // the players of the shots behind the tick
	}{
		{"none", 0, 1, nil, nil},
		{"the first", 0, 1, []api.Intent{{Player: 2, Fire: true}}, []int{2}},
		{"the second", 0, 1, []api.Intent{{Player: 2}, {Player: 7, Fire: true}}, []int{7}},
		{"the second alone", 0, 1, []api.Intent{{Player: 7, Fire: true}}, []int{7}},
		{"both", 0, 1, []api.Intent{{Player: 2, Fire: true}, {Player: 7, Fire: true}}, []int{2, 7}},
		{"both, too hot", 1, 1, []api.Intent{{Player: 2, Fire: true}, {Player: 7, Fire: true}}, nil},
		{"both, without ammunition", 0, 0, []api.Intent{{Player: 2, Fire: true}, {Player: 7, Fire: true}}, nil},
	} {
		one.Cool, two.Cool, one.Ammo, two.Ammo = x.cool, x.cool, x.ammo, x.ammo
		s := stepped(t, b, api.State{Cars: cars(one, two), Next: 30}, tickOf(x.intent...))
		if len(s.Shots) != len(x.by) || s.Next != 30+len(x.by) {
			t.Errorf("%s: %+v", x.what, s)
			continue
		}
		for n, player := range x.by {
			if s.Shots[n].Player != player || s.Shots[n].Id != 30+n {
				t.Errorf("%s: %+v", x.what, s.Shots)
			}
		}
	}
}

// many gives so many shots that stand still, of a player.
func many(n, player int) []api.Shot {
	var list []api.Shot
	for i := range n {
		list = append(list, api.Shot{Id: i, Player: player, At: units(100, 40), Left: 9})
	}
	return list
}

// Line 3 and MaxShots: with 63 shots one more is fired, with 64 and more none; a shot that goes in line 4 makes no room in line 3.
func TestLineMaxShots(t *testing.T) {
	b := parsed(t, hall)
	s := api.State{Cars: cars(parked(0, "ann", units(20, 14)), parked(1, "bob", units(20, 30)), parked(2, "eve", units(20, 50)))}
	l := tickOf(api.Intent{Player: 0, Fire: true}, api.Intent{Player: 1, Fire: true}, api.Intent{Player: 2, Fire: true})
	for before, fired := range map[int]int{0: 3, 61: 3, 62: 2, 63: 1, 64: 0, 65: 0, 66: 0, 200: 0} {
		for _, left := range []int{9, 1} {
			s.Shots, s.Next = many(before, 0), before
			for i := range s.Shots {
				s.Shots[i].Left = left
			}
			then := fired
			if left > 1 {
				then += before
			}
			got := stepped(t, b, s, l)
			if got.Next != before+fired || len(got.Shots) != then {
				t.Errorf("%d shots with Left %d: Next %d, %d shots, want %d, %d", before, left, got.Next, len(got.Shots), before+fired, then)
			}
			for player, c := range got.Cars {
				if (c.Ammo == 19) != (player < fired) {
					t.Errorf("%d shots: of the cars that fire %+v is number %d", before, c, player)
				}
			}
		}
	}
}

// Line 4: a car that comes in line 1 may be hit, and be a wreck again, in the same tick: P17.4's last words.
func TestLineComesAndIsHit(t *testing.T) {
	b := parsed(t, hall)
	one, two := parked(1, "ann", units(60, 30)), parked(2, "bob", units(60, 50))
	two.Health, two.Wait, two.Spawns, two.Score = 0, 1, 3, 2
	// Player 2 comes for the fifth time: at the spawn 6 modulo 3.
	for n, want := range map[int]api.Car{
		0: {Health: 100}, 1: {Health: 80}, 4: {Health: 20}, 5: {Wait: 40}, 6: {Wait: 40},
	} {
		s := api.State{Cars: cars(one, two), Shots: many(n, 1), Next: n}
		for i := range s.Shots {
			s.Shots[i].At = units(12, 12)
		}
		got := stepped(t, b, s, tickOf())
		c, score, left := got.Cars[1], 0, 0
		if want.Wait > 0 {
			score, left = 1, n-5
		}
		if c.At != units(12, 12) || c.Spawns != 4 || c.Score != 2 || c.Health != want.Health || c.Wait != want.Wait || got.Cars[0].Score != score || len(got.Shots) != left {
			t.Errorf("%d shots: %+v", n, got)
		}
	}
}

// Line 4: no owner, an owner that is a wreck, an owner that stands twice.
func TestLineOwners(t *testing.T) {
	b := parsed(t, hall)
	target := parked(1, "bob", units(60, 30))
	target.Health = 20
	x := api.Shot{Id: 0, Player: 7, At: units(60, 30), Left: 9}
	one, two := parked(7, "ann", units(20, 30)), parked(7, "eve", units(60, 31))
	asWreck := one
	asWreck.Health, asWreck.Wait = 0, 30
	for _, c := range []struct {
		what   string
		cars   []api.Car
		scores []int
	}{
		{"nobody", cars(target), []int{0}},
		{"another", cars(target, parked(8, "tom", units(20, 30))), []int{0, 0}},
		{"one", cars(target, one), []int{0, 1}},
		{"a wreck", cars(target, asWreck), []int{0, 1}},
		{"twice, behind", cars(target, one, two), []int{0, 1, 0}},
		{"twice, about", cars(two, target, one), []int{1, 0, 0}},
		{"twice, the first a wreck", cars(asWreck, target, two), []int{1, 0, 0}},
	} {
		s := stepped(t, b, api.State{Cars: c.cars, Shots: shots(x), Next: 1}, tickOf())
		for i, score := range c.scores {
			if s.Cars[i].Score != score || s.Cars[i].Player == 1 && s.Cars[i].Wait != 40 {
				t.Errorf("%s: %+v, want the scores %v", c.what, s, c.scores)
			}
		}
		if len(s.Shots) != 0 {
			t.Errorf("%s: %+v", c.what, s.Shots)
		}
	}
}

// Line 4: hits that make no wreck count nothing.
func TestLineNoPoint(t *testing.T) {
	b := parsed(t, hall)
	one, two := parked(0, "ann", units(20, 30)), parked(1, "bob", units(60, 30))
	for n := range 6 {
		s := api.State{Cars: cars(one, two), Shots: many(n, 0), Next: n}
		for i := range s.Shots {
			s.Shots[i].At = units(60, 30)
		}
		got := stepped(t, b, s, tickOf())
		if got.Cars[1].Health != 100-20*n || got.Cars[0].Score != n/5 || got.Cars[1].Wait != n/5*40 {
			t.Errorf("%d hits: %+v", n, got)
		}
	}
}

// Line 5: three cars that touch one another: the pairs 0 1, 0 2, 1 2 leave the speeds of the outer two exchanged.
func TestLineBump(t *testing.T) {
	b := parsed(t, hall)
	one, two, three := parked(0, "ann", units(60, 30)), parked(1, "bob", units(61, 30)), parked(2, "eve", units(62, 30))
	one.Speed, two.Speed, three.Speed = at(1, 0), at(2, 3), at(4, 5)
	got := stepped(t, b, api.State{Cars: cars(one, two, three)}, tickOf())
	one.At, two.At, three.At = at(60*unit+1, 30*unit), at(61*unit+2, 30*unit+3), at(62*unit+4, 30*unit+5)
	one.Speed, three.Speed = three.Speed, one.Speed
	wantState(t, "three", got, api.State{Tick: 1, Cars: cars(one, two, three)})
	for gap, is := range map[int64]bool{163840: true, 163841: false} {
		one, two := parked(0, "ann", units(60, 30)), parked(1, "bob", at(60*unit+gap-1, 30*unit))
		two.Speed = at(1, 0) // so much it drives ahead of line 5
		got := stepped(t, b, api.State{Cars: cars(one, two)}, tickOf())
		if bumped := got.Cars[0].Speed == at(1, 0) && got.Cars[1].Speed == at(0, 0); bumped != is || got.Cars[1].At.X != 60*unit+gap {
			t.Errorf("%d apart: %+v", gap, got.Cars)
		}
	}
}

// Types: in a state that no run makes an intent is for all cars of its player, and lists are gone through as they lie.
func TestLineAnyOrder(t *testing.T) {
	b := parsed(t, hall)
	s := api.State{Cars: cars(parked(9, "ann", units(60, 14)), parked(-4, "bob", units(60, 30)), parked(9, "eve", units(60, 46))), Next: -3}
	got := stepped(t, b, s, tickOf(api.Intent{Player: -4, Turn: 1}, api.Intent{Player: 9, Turn: 2, Fire: true}))
	for i, heading := range []int{2, 1, 2} {
		if c := got.Cars[i]; c.Heading != heading || c.Name != s.Cars[i].Name || c.Player != s.Cars[i].Player {
			t.Errorf("car %d: %+v", i, c)
		}
	}
	if len(got.Shots) != 2 || got.Shots[0].Id != -3 || got.Shots[1].Id != -2 || got.Next != -1 || got.Shots[0].At.Y > 20*unit {
		t.Errorf("%+v", got.Shots)
	}
	s = api.State{Cars: cars(parked(0, "ann", units(60, 30))), Shots: shots(api.Shot{Id: 9, At: units(20, 30), Left: 2}, api.Shot{Id: 9, At: units(20, 30), Left: 3}, api.Shot{Id: -1, At: units(20, 30), Left: 4})}
	got = stepped(t, b, s, tickOf())
	want := twin(s)
	want.Tick, want.Shots[0].Left, want.Shots[1].Left, want.Shots[2].Left = 1, 1, 2, 3
	wantState(t, "Ids in any order", got, want)
}

// Counters: what comes to its end wraps round.
func TestLineEnds(t *testing.T) {
	b := parsed(t, hall)
	one, two, three := parked(0, "ann", units(20, 30)), parked(1, "bob", units(60, 30)), parked(2, "eve", units(60, 50))
	one.Score, two.Health, three.Wait, three.Health, three.Spawns = math.MaxInt, 20, 1, 0, math.MaxInt
	x := api.Shot{Id: 5, Player: 0, At: units(60, 30), Left: 9}
	got := stepped(t, b, api.State{Tick: math.MaxUint64, Cars: cars(one, two, three), Shots: shots(x), Next: math.MaxInt}, tickOf(api.Intent{Player: 0, Fire: true}))
	if got.Tick != 0 || got.Next != math.MinInt || len(got.Shots) != 1 || got.Shots[0].Id != math.MaxInt || got.Cars[0].Score != math.MinInt || got.Cars[2].Spawns != math.MinInt {
		t.Errorf("%+v", got)
	}
}

// P17.6: a tick without cars and shots.
func TestLineNothing(t *testing.T) {
	for _, b := range boards(t) {
		for _, next := range ends {
			for _, tick := range []uint64{0, 1, 6, 7, 8, 1 << 32, math.MaxUint64 - 1, math.MaxUint64} {
				got := stepped(t, b, api.State{Tick: tick, Next: next}, tickOf())
				if got.Tick != tick+1 || got.Next != next || len(got.Cars)+len(got.Shots) != 0 {
					t.Fatalf("tick %d, Next %d: %+v", tick, next, got)
				}
			}
		}
	}
	s, e := rule.Run(parsed(t, example), make([]api.Label, 0, 1))
	if e != api.OK || !zero(s) {
		t.Errorf("Run of nothing = %+v, %v", s, e)
	}
}
