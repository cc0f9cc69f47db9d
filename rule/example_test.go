package rule_test

import (
	"math"
	"testing"

	"joust/api"
	"joust/rule"
)

// ann and bob as they come on the chapter's board.
var (
	ann = api.Car{Player: 0, Name: "ann", At: at(786432, 786432), Health: 100, Energy: 100, Ammo: 20}
	bob = api.Car{Player: 1, Name: "bob", At: at(1835008, 1835008), Health: 100, Energy: 100, Ammo: 20}
)

func cars(list ...api.Car) []api.Car { return list }

func shots(list ...api.Shot) []api.Shot { return list }

// Example 1, and joins in any order.
func TestExampleJoins(t *testing.T) {
	b := parsed(t, example)
	one, e := rule.Run(b, []api.Label{joinOf(0, "ann")})
	if e != api.OK {
		t.Fatal(e)
	}
	wantState(t, "join 0", one, api.State{Cars: cars(ann)})
	two := stepped(t, b, one, joinOf(1, "bob"))
	wantState(t, "join 1 behind it", two, api.State{Cars: cars(ann, bob)})
	wantState(t, "join 1 ahead of it", stepped(t, b, rule.Empty(), joinOf(1, "bob"), joinOf(0, "ann")), two)
	for _, l := range []api.Label{joinOf(0, "ann"), joinOf(0, "eve"), joinOf(32, "eve"), joinOf(-1, "eve"), leaveOf(5)} {
		wantRefused(t, b, two, l, api.ErrPlayer)
	}
}

// Example 2.
func TestExampleDrive(t *testing.T) {
	b := parsed(t, example)
	s := stepped(t, b, rule.Empty(), joinOf(0, "ann"), tickOf(api.Intent{Player: 0, Throttle: 100}))
	want := ann
	want.At.X, want.Speed = 790272, at(3840, 0)
	wantState(t, "throttle 100", s, api.State{Tick: 1, Cars: cars(want)})
}

// Examples 3 and 6.
func TestExampleFire(t *testing.T) {
	b := parsed(t, example)
	s := stepped(t, b, rule.Empty(), joinOf(0, "ann"), tickOf(api.Intent{Player: 0, Fire: true}))
	want := ann
	want.Ammo, want.Energy, want.Cool = 19, 93, 7
	shell := api.Shot{Id: 0, Player: 0, At: at(1114112, 786432), Speed: at(196608, 0), Left: 47}
	wantState(t, "fire", s, api.State{Tick: 1, Cars: cars(want), Shots: shots(shell), Next: 1})
	wantState(t, "leave", stepped(t, b, s, leaveOf(0)), api.State{Tick: 1, Next: 1})
}

// Example 4, with and without a second car.
func TestExampleLabels(t *testing.T) {
	b := parsed(t, example)
	for _, s := range []api.State{{Cars: cars(ann)}, {Cars: cars(ann, bob)}} {
		for _, l := range []api.Label{
			tickOf(api.Intent{Player: 1}, api.Intent{Player: 0}),
			tickOf(api.Intent{Player: 3}),
			tickOf(api.Intent{Player: 0, Turn: 9}),
			{Kind: 4},
		} {
			wantRefused(t, b, s, l, api.ErrLabel)
		}
	}
}

// Example 5.
func TestExampleEmpty(t *testing.T) {
	b := parsed(t, example)
	wantState(t, "Empty", rule.Empty(), api.State{})
	wantState(t, "a tick of Empty", stepped(t, b, rule.Empty(), tickOf()), api.State{Tick: 1})
}

// parked gives a car that stands on free ground of the hall and has all that it may have.
func parked(player int, name string, place api.Vec) api.Car {
	return api.Car{Player: player, Name: name, At: place, Health: 100, Energy: 100, Ammo: 20}
}

// Hard place 1, and line 1: a wreck that comes drives and fires in the same tick; one that does not come yet does neither.
func TestHardComing(t *testing.T) {
	b := parsed(t, hall)
	wreck := api.Car{Player: 0, Name: "ann", At: units(60, 30), Heading: 64, Energy: 3, Ammo: 1, Cool: 5, Wait: 1, Spawns: 1, Score: 7}
	l := tickOf(api.Intent{Player: 0, Throttle: 100, Fire: true})
	came := api.Car{Player: 0, Name: "ann", At: at(12*unit+3840, 52*unit), Speed: at(3840, 0), Health: 100, Energy: 93, Ammo: 19, Cool: 7, Spawns: 2, Score: 7}
	// Its speed is 196608 + 3840, of which the quarter is 50112.
	shell := api.Shot{Id: 4, Player: 0, At: at(12*unit+3840+131072+4*50112, 52*unit), Speed: at(200448, 0), Left: 47}
	wantState(t, "Wait 1", stepped(t, b, api.State{Tick: 9, Cars: cars(wreck), Next: 4}, l), api.State{Tick: 10, Cars: cars(came), Shots: shots(shell), Next: 5})
	for _, wait := range []int{2, 40, math.MaxInt} {
		wreck.Wait = wait
		want := wreck
		want.Wait = wait - 1
		wantState(t, "a greater Wait", stepped(t, b, api.State{Tick: 9, Cars: cars(wreck), Next: 4}, l), api.State{Tick: 10, Cars: cars(want), Next: 4})
	}
	wreck.Wait = 1
	came = api.Car{Player: 0, Name: "ann", At: units(12, 52), Health: 100, Energy: 100, Ammo: 20, Spawns: 2, Score: 7}
	wantState(t, "Wait 1, no intent", stepped(t, b, api.State{Cars: cars(wreck)}, tickOf()), api.State{Tick: 1, Cars: cars(came)})
}

// Hard place 2: a shot is fired from where the car is behind line 2, by the heading and the speed that it has then, and flies at once.
func TestHardFiredBehindTheDrive(t *testing.T) {
	b := parsed(t, hall)
	c := parked(3, "ann", units(60, 30))
	c.Heading, c.Speed = 60, at(0, 1600)
	got := stepped(t, b, api.State{Cars: cars(c), Next: 2}, tickOf(api.Intent{Player: 3, Turn: 4, Throttle: 50, Fire: true}))
	want := c
	want.Heading = 64
	want.Speed = at(0, 3420) // 1600 + 2048, less its sixteenth, 228
	want.At = at(60*unit, 30*unit+3420)
	want.Ammo, want.Energy, want.Cool = 19, 93, 7
	// Its speed is 196608 + 3420, of which the quarter is 50007.
	shell := api.Shot{Id: 2, Player: 3, At: at(60*unit, 30*unit+3420+131072+4*50007), Speed: at(0, 200028), Left: 47}
	wantState(t, "a turn, a push and a shot", got, api.State{Tick: 1, Cars: cars(want), Shots: shots(shell), Next: 3})
}

// Hard place 2: what was fired may hit in the same tick.
func TestHardFiredAndHits(t *testing.T) {
	b := parsed(t, hall)
	one, two := parked(0, "ann", units(60, 30)), parked(1, "bob", units(65, 30))
	got := stepped(t, b, api.State{Cars: cars(one, two)}, tickOf(api.Intent{Fire: true}))
	one.Ammo, one.Energy, one.Cool = 19, 93, 7
	two.Health = 80
	wantState(t, "a shot at 5 units", got, api.State{Tick: 1, Cars: cars(one, two), Next: 1})
}

// Hard place 3: the first of two shots makes a wreck, the second flies through it, in the order of the list.
func TestHardTwoShots(t *testing.T) {
	b := parsed(t, hall)
	one, two, three := parked(0, "ann", units(20, 30)), parked(1, "bob", units(60, 30)), parked(2, "eve", units(20, 50))
	first := api.Shot{Id: 5, Player: 0, At: units(60, 30), Speed: at(4*unit, 0), Left: 9}
	second := api.Shot{Id: 6, Player: 2, At: units(60, 31), Speed: at(4*unit, 0), Left: 9}
	flown := second
	flown.At, flown.Left = units(64, 31), 8
	for _, x := range []struct{ health, then, wait, ann, eve int }{
		{1, 0, 40, 1, 0}, {20, 0, 40, 1, 0}, {21, 0, 40, 0, 1}, {40, 0, 40, 0, 1}, {41, 1, 0, 0, 0}, {100, 60, 0, 0, 0},
	} {
		two.Health, two.Speed = x.health, at(16, 16)
		want := api.State{Tick: 1, Cars: cars(one, two, three), Next: 7}
		want.Cars[0].Score, want.Cars[2].Score = x.ann, x.eve
		want.Cars[1].Health, want.Cars[1].Wait = x.then, x.wait
		want.Cars[1].At, want.Cars[1].Speed = at(60*unit+15, 30*unit+15), at(15, 15)
		if x.wait > 0 {
			want.Cars[1].Speed = at(0, 0)
		}
		if x.ann > 0 {
			want.Shots = shots(flown)
		}
		wantState(t, "two shots", stepped(t, b, api.State{Cars: cars(one, two, three), Shots: shots(first, second), Next: 7}, tickOf()), want)
	}
}

// Hard place 4: the first car by Player is hit, not the nearest; a wreck is none of them.
func TestHardFirstByPlayer(t *testing.T) {
	b := parsed(t, hall)
	one, two, three := parked(4, "ann", units(20, 30)), parked(5, "bob", units(61, 30)), parked(6, "eve", units(60, 33))
	three.At = at(60*unit+100, 30*unit)
	x := api.Shot{Id: 0, Player: 4, At: units(60, 30), Left: 9}
	s := api.State{Cars: cars(one, two, three), Shots: shots(x), Next: 1}
	want := api.State{Tick: 1, Cars: cars(one, two, three), Next: 1}
	want.Cars[1].Health = 80
	wantState(t, "both in reach", stepped(t, b, s, tickOf()), want)
	s.Cars[1].Wait, s.Cars[1].Health = 9, 0
	want.Cars[1].Wait, want.Cars[1].Health, want.Cars[2].Health = 8, 0, 80
	wantState(t, "the first a wreck", stepped(t, b, s, tickOf()), want)
}

// Hard place 5: a car is hit where line 2 brought it, and what line 4 made a wreck does not bump in line 5.
func TestHardHitBehindTheDrive(t *testing.T) {
	b := parsed(t, hall)
	one, two := parked(0, "ann", units(20, 30)), parked(1, "bob", at(60*unit, 30*unit))
	two.Speed = at(16, 0)
	for _, x := range []struct {
		place  int64
		health int
	}{
		{60*unit + 98304 + 15, 80}, {60*unit + 98304 + 16, 100}, // it drives 15 towards the shot
		{60*unit + 15 - 98304, 80}, {60*unit - 98304, 100}, // or away from it
	} {
		shell := api.Shot{Id: 0, Player: 0, At: at(x.place, 30*unit), Left: 1}
		want := api.State{Tick: 1, Cars: cars(one, two), Next: 1}
		want.Cars[1].At.X, want.Cars[1].Speed, want.Cars[1].Health = 60*unit+15, at(15, 0), x.health
		wantState(t, "a car that drives", stepped(t, b, api.State{Cars: cars(one, two), Shots: shots(shell), Next: 1}, tickOf()), want)
	}
	one.At, one.Speed = units(62, 30), at(-32, 0)
	two.Health = 20
	shell := api.Shot{Id: 0, Player: 0, At: units(60, 30), Left: 9}
	want := api.State{Tick: 1, Cars: cars(one, two), Next: 1}
	want.Cars[0].At.X, want.Cars[0].Speed, want.Cars[0].Score = 62*unit-30, at(-30, 0), 1
	want.Cars[1].At.X, want.Cars[1].Speed, want.Cars[1].Health, want.Cars[1].Wait = 60*unit+15, at(0, 0), 0, 40
	wantState(t, "a wreck does not bump", stepped(t, b, api.State{Cars: cars(one, two), Shots: shots(shell), Next: 1}, tickOf()), want)
}

// Hard places 6 and 7: a wreck's shot flies on, hits, and counts for it; an owner's shot flies through the owner.
func TestHardOwners(t *testing.T) {
	b := parsed(t, hall)
	one, two := parked(0, "ann", units(20, 30)), parked(1, "bob", units(60, 30))
	two.Health, one.Health = 20, 20
	at1, at0 := api.Shot{Id: 0, Player: 0, At: units(60, 30), Left: 9}, api.Shot{Id: 1, Player: 1, At: units(20, 30), Left: 9}
	far := api.Shot{Id: 2, Player: 1, At: units(60, 40), Speed: at(4*unit, 0), Left: 9}
	flown := far
	flown.At, flown.Left = units(64, 40), 8
	want := api.State{Tick: 1, Cars: cars(one, two), Shots: shots(flown), Next: 3}
	for i := range want.Cars {
		want.Cars[i].Health, want.Cars[i].Wait, want.Cars[i].Score = 0, 40, 1
	}
	wantState(t, "both make the other a wreck", stepped(t, b, api.State{Cars: cars(one, two), Shots: shots(at1, at0, far), Next: 3}, tickOf()), want)
	one.Health = 100
	own := api.Shot{Id: 0, Player: 0, At: units(18, 30), Speed: at(4*unit, 0), Left: 2}
	through := own
	through.At, through.Left = units(22, 30), 1
	wantState(t, "the owner's", stepped(t, b, api.State{Cars: cars(one), Shots: shots(own), Next: 1}, tickOf()), api.State{Tick: 1, Cars: cars(one), Shots: shots(through), Next: 1})
	wantState(t, "its last tick", stepped(t, b, api.State{Cars: cars(one), Shots: shots(through), Next: 1}, tickOf()), api.State{Tick: 1, Cars: cars(one), Next: 1})
}

// Hard place 8, and line 6: what rest brings on each kind of cell, and when.
func TestHardRest(t *testing.T) {
	b := parsed(t, hall)
	free, energy, ammo := units(60, 30), units(28, 12), units(12, 28)
	for _, x := range []struct {
		place  api.Vec
		tick   uint64
		before [3]int // Energy, Ammo, Cool
		behind [3]int
		what   string
	}{
		{free, 7, [3]int{50, 5, 3}, [3]int{51, 5, 2}, "free ground"},
		{free, 7, [3]int{99, 20, 0}, [3]int{100, 20, 0}, "free ground, nearly all"},
		{free, 7, [3]int{100, 20, 1}, [3]int{100, 20, 0}, "free ground, all"},
		{energy, 7, [3]int{0, 0, 8}, [3]int{5, 0, 7}, "energy, nothing"},
		{energy, 7, [3]int{95, 5, 0}, [3]int{100, 5, 0}, "energy, 5 missing"},
		{energy, 7, [3]int{96, 5, 0}, [3]int{100, 5, 0}, "energy, 4 missing"},
		{energy, 7, [3]int{100, 5, 0}, [3]int{100, 5, 0}, "energy, all"},
		{ammo, 7, [3]int{50, 5, 0}, [3]int{51, 6, 0}, "ammunition, tick 8"},
		{ammo, 15, [3]int{50, 19, 0}, [3]int{51, 20, 0}, "ammunition, tick 16"},
		{ammo, 7, [3]int{50, 20, 0}, [3]int{51, 20, 0}, "ammunition, all"},
		{ammo, 6, [3]int{50, 5, 0}, [3]int{51, 5, 0}, "ammunition, tick 7"},
		{ammo, 8, [3]int{50, 5, 0}, [3]int{51, 5, 0}, "ammunition, tick 9"},
		{ammo, math.MaxUint64, [3]int{50, 5, 0}, [3]int{51, 6, 0}, "ammunition, the tick that wraps round to 0"},
	} {
		c := parked(0, "ann", x.place)
		c.Energy, c.Ammo, c.Cool = x.before[0], x.before[1], x.before[2]
		want := c
		want.Energy, want.Ammo, want.Cool = x.behind[0], x.behind[1], x.behind[2]
		wantState(t, x.what, stepped(t, b, api.State{Tick: x.tick, Cars: cars(c)}, tickOf()), api.State{Tick: x.tick + 1, Cars: cars(want)})
	}
}
