package rule_test

import (
	"math"
	"strings"
	"testing"

	"joust/api"
	"joust/rule"
)

var strangers = []int{math.MinInt, math.MinInt + 1, -1 << 32, -256, -33, -32, -31, -2, -1, 32, 33, 63, 64, 255, 256, 257, 1 << 31, 1 << 32, 1<<32 + 5, math.MaxInt - 1, math.MaxInt}

// ErrLabel: kinds that are none, whatever else the label has.
func TestLabelKinds(t *testing.T) {
	b := parsed(t, example)
	s := api.State{Cars: cars(ann, bob)}
	for _, kind := range append([]int{-3, -2, -1, 0, 4, 5, 6, 7, 1 << 8, 1<<8 + 1, 1<<32 + 1, 1<<32 + 2, 1<<32 + 3}, ends...) {
		if kind >= 1 && kind <= 3 {
			continue
		}
		for _, l := range []api.Label{{}, {Player: 1}, {Player: -1}, {Player: 7}, {Name: "x"}, {Intents: []api.Intent{{}}}, {Player: 7, Name: "x"}} {
			l.Kind = kind
			wantRefused(t, b, s, l, api.ErrLabel)
			wantRefused(t, b, rule.Empty(), l, api.ErrLabel)
		}
	}
}

// ErrLabel: what a kind has no use for is looked at ahead of the player; an empty list of intents is none.
func TestLabelStray(t *testing.T) {
	b := parsed(t, example)
	s := api.State{Cars: cars(ann, bob)}
	some := []api.Intent{{}}
	for _, player := range append([]int{0, 1, 2, 31}, strangers...) {
		wantRefused(t, b, s, api.Label{Kind: api.LbJoin, Player: player, Intents: some}, api.ErrLabel)
		wantRefused(t, b, s, api.Label{Kind: api.LbJoin, Player: player, Name: "x", Intents: some}, api.ErrLabel)
		wantRefused(t, b, s, api.Label{Kind: api.LbLeave, Player: player, Intents: some}, api.ErrLabel)
		wantRefused(t, b, s, api.Label{Kind: api.LbLeave, Player: player, Name: "ann"}, api.ErrLabel)
		wantRefused(t, b, s, api.Label{Kind: api.LbLeave, Player: player, Name: "\x00"}, api.ErrLabel)
		if player != 0 {
			wantRefused(t, b, s, api.Label{Kind: api.LbTick, Player: player}, api.ErrLabel)
			wantRefused(t, b, s, api.Label{Kind: api.LbTick, Player: player, Intents: some}, api.ErrLabel)
		}
	}
	for _, name := range []string{" ", "ann", "\x00", strings.Repeat("x", 300)} {
		wantRefused(t, b, s, api.Label{Kind: api.LbTick, Name: name}, api.ErrLabel)
		wantRefused(t, b, s, api.Label{Kind: api.LbTick, Name: name, Intents: some}, api.ErrLabel)
	}
	none := make([]api.Intent, 0, 4)
	for _, l := range []api.Label{{Kind: api.LbJoin, Player: 2}, {Kind: api.LbLeave, Player: 1}, {Kind: api.LbTick}} {
		want := stepped(t, b, s, l)
		l.Intents = none
		wantState(t, "an empty list", stepped(t, b, s, l), want)
	}
}

// Joins: each number once, those beyond the bounds never, and the name whatever it is.
func TestLabelJoin(t *testing.T) {
	b := parsed(t, example)
	places := []api.Vec{at(786432, 786432), at(1835008, 1835008)}
	s := rule.Empty()
	for n := range 32 {
		player := (n*7 + 3) % 32
		for _, other := range strangers {
			wantRefused(t, b, s, joinOf(other, "x"), api.ErrPlayer)
		}
		name := []string{"", "ann", "\xff\x00", strings.Repeat("\xc3", 70000), "ann"}[n%5]
		s = stepped(t, b, s, joinOf(player, name))
		wantRefused(t, b, s, joinOf(player, "again"), api.ErrPlayer)
		if len(s.Cars) != n+1 {
			t.Fatalf("%d cars behind %d joins", len(s.Cars), n+1)
		}
	}
	for i, c := range s.Cars {
		name := []string{"", "ann", "\xff\x00", strings.Repeat("\xc3", 70000), "ann"}[(i+29)*23%32%5] // 23 times 7 is 1 modulo 32
		if want := (api.Car{Player: i, Name: name, At: places[i%2], Health: 100, Energy: 100, Ammo: 20}); c != want {
			t.Errorf("car %d: %.200v, want %.200v", i, c, want)
		}
	}
	for player := range 32 {
		wantRefused(t, b, s, joinOf(player, "x"), api.ErrPlayer)
	}
}

// Joins: a car that was there, in a state that no run makes, is there too, a wreck too; where the new one is laid among others in any order.
func TestLabelJoinAnyOrder(t *testing.T) {
	b := parsed(t, example)
	for _, x := range []struct {
		before []int
		player int
		behind []int
	}{
		{nil, 0, []int{0}},
		{[]int{1}, 0, []int{0, 1}},
		{[]int{0}, 1, []int{0, 1}},
		{[]int{0, 2}, 1, []int{0, 1, 2}},
		{[]int{5, 2, 9}, 3, []int{3, 5, 2, 9}},
		{[]int{5, 2, 9}, 7, []int{5, 2, 7, 9}},
		{[]int{5, 2, 9}, 10, []int{5, 2, 9, 10}},
		{[]int{9, 9, 1}, 4, []int{4, 9, 9, 1}},
		{[]int{3, 2, 1, 0}, 31, []int{3, 2, 1, 0, 31}},
		{[]int{-5, 40, math.MaxInt}, 31, []int{-5, 31, 40, math.MaxInt}},
		{[]int{math.MinInt, -1}, 0, []int{math.MinInt, -1, 0}},
		{[]int{math.MaxInt, math.MinInt}, 0, []int{0, math.MaxInt, math.MinInt}},
	} {
		s := api.State{Tick: 5, Shots: many(3, 9), Next: 3}
		for n, player := range x.before {
			s.Cars = append(s.Cars, api.Car{Player: player, Name: string(rune('a' + n)), Wait: n})
		}
		got := stepped(t, b, s, joinOf(x.player, "new"))
		others := 0
		for i, player := range x.behind {
			c := got.Cars[i]
			if c.Player != player {
				t.Fatalf("join %d among %v: %+v", x.player, x.before, got.Cars)
			}
			if player != x.player {
				if c != s.Cars[others] {
					t.Errorf("join %d among %v: %+v has become %+v", x.player, x.before, s.Cars[others], c)
				}
				others++
			} else if c.Name != "new" || c.Health != 100 {
				t.Errorf("join %d: %+v", x.player, c)
			}
		}
		got.Cars = s.Cars
		wantState(t, "all but the cars", got, s)
		for _, player := range x.before {
			wantRefused(t, b, s, joinOf(player, "x"), api.ErrPlayer)
		}
	}
}

// Leaves: whoever is there goes, and the shots; whoever is not is ErrPlayer, whatever the number.
func TestLabelLeave(t *testing.T) {
	b := parsed(t, example)
	s := api.State{Tick: 6, Next: 9}
	for _, player := range append([]int{0, 1, 31}, strangers...) {
		wantRefused(t, b, s, leaveOf(player), api.ErrPlayer)
	}
	for n := range 32 {
		s = stepped(t, b, s, joinOf(n, "x"))
	}
	for _, player := range strangers {
		wantRefused(t, b, s, leaveOf(player), api.ErrPlayer)
	}
	for n := range 32 {
		player := (n*5 + 31) % 32
		s.Shots = append(many(2, player), many(1, (player+5)%32)...)
		s = stepped(t, b, s, leaveOf(player))
		if len(s.Cars) != 31-n || len(s.Shots) != 1 || s.Shots[0].Player != (player+5)%32 || s.Tick != 6 || s.Next != 9 {
			t.Fatalf("leave %d: %+v", player, s)
		}
		wantRefused(t, b, s, leaveOf(player), api.ErrPlayer)
	}
}

// Leaves in a state that no run makes: the first car with the number goes, be the number beyond all bounds; all its shots.
func TestLabelLeaveAnyOrder(t *testing.T) {
	b := parsed(t, example)
	for _, player := range append([]int{0, 4, 31}, strangers...) {
		other := player ^ 1
		s := api.State{Tick: 1, Next: 2, Cars: cars(parked(other, "a", at(0, 0)), parked(player, "b", at(0, 0)), parked(other, "c", at(0, 0)), parked(player, "d", at(0, 0)))}
		s.Shots = shots(api.Shot{Id: 1, Player: player}, api.Shot{Id: 0, Player: other}, api.Shot{Id: 7, Player: player}, api.Shot{Id: 7, Player: other})
		once := stepped(t, b, s, leaveOf(player))
		wantState(t, "once", once, api.State{Tick: 1, Next: 2, Cars: cars(s.Cars[0], s.Cars[2], s.Cars[3]), Shots: shots(s.Shots[1], s.Shots[3])})
		twice := stepped(t, b, once, leaveOf(player))
		wantState(t, "twice", twice, api.State{Tick: 1, Next: 2, Cars: cars(s.Cars[0], s.Cars[2]), Shots: shots(s.Shots[1], s.Shots[3])})
		wantRefused(t, b, twice, leaveOf(player), api.ErrPlayer)
	}
}

// Ticks: every throttle and turn about the bounds; a player without a car, or twice, or not rising, in each place of the list.
func TestLabelIntents(t *testing.T) {
	b := parsed(t, hall)
	s := api.State{Cars: cars(parked(3, "a", units(60, 14)), parked(5, "b", units(60, 30)), parked(8, "c", units(60, 46)))}
	for n := range 3 {
		for _, x := range append([]int{-128, 127, -100, -101, -99, 99, 100, 101, -8, -9, -7, 7, 8, 9}, ends...) {
			for _, turn := range []bool{false, true} {
				list := []api.Intent{{Player: 3}, {Player: 5}, {Player: 8}}
				most := 100
				if turn {
					list[n].Turn, most = x, 8
				} else {
					list[n].Throttle = x
				}
				if x >= -most && x <= most {
					stepped(t, b, s, tickOf(list...))
				} else {
					wantRefused(t, b, s, tickOf(list...), api.ErrLabel)
				}
			}
		}
	}
	for _, players := range [][]int{
		{3, 3}, {5, 3}, {3, 5, 5}, {3, 8, 5}, {8, 3, 5}, {5, 8, 3}, {3, 5, 8, 8}, {3, 5, 8, 3},
		{0}, {4}, {9}, {32}, {-3}, {math.MinInt}, {math.MaxInt}, {2, 3}, {3, 4}, {3, 4, 5}, {3, 5, 8, 9}, {-1, 3, 5, 8}, {math.MinInt, 3}, {3, math.MaxInt},
	} {
		var list []api.Intent
		for _, player := range players {
			list = append(list, api.Intent{Player: player})
		}
		wantRefused(t, b, s, tickOf(list...), api.ErrLabel)
	}
	for _, players := range [][]int{nil, {3}, {5}, {8}, {3, 5}, {3, 8}, {5, 8}, {3, 5, 8}} {
		var list []api.Intent
		for _, player := range players {
			list = append(list, api.Intent{Player: player, Turn: 8, Throttle: -100})
		}
		for _, c := range stepped(t, b, s, tickOf(list...)).Cars {
			turned := 0
			for _, player := range players {
				if c.Player == player {
					turned = 8
				}
			}
			if c.Heading != turned {
				t.Errorf("intents of %v: %+v", players, c)
			}
		}
	}
}

// Intents of a wreck, and of cars whose numbers no session has, are taken.
func TestLabelIntentsOfAnyCar(t *testing.T) {
	b := parsed(t, hall)
	list := []int{math.MinInt, -1, 0, 31, 32, math.MaxInt}
	s := api.State{Next: 3}
	var intents []api.Intent
	for n, player := range list {
		c := parked(player, "x", units(20+10*int64(n), 30))
		c.Wait = n % 2 * 9
		s.Cars = append(s.Cars, c)
		intents = append(intents, api.Intent{Player: player, Turn: 5})
	}
	for n, c := range stepped(t, b, s, tickOf(intents...)).Cars {
		if c.Heading != (1-n%2)*5 || c.Wait != n%2*8 {
			t.Errorf("%+v", c)
		}
	}
	wantRefused(t, b, s, tickOf(append(intents, intents[0])...), api.ErrLabel)
}
