package rule_test

import (
	"cmp"
	"math"
	"slices"
	"strings"
	"testing"

	"joust/api"
	"joust/board"
	"joust/rule"
)

// player gives a number of few, so that one stands twice often, at times one of any size.
func (d *dice) player() int {
	switch d.below(12) {
	case 0:
		return d.of(-1, 31, 32, 33, math.MinInt, math.MaxInt)
	case 1:
		return d.number()
	default:
		return d.below(5)
	}
}

func (d *dice) name() string {
	return []string{"", "ann", "bob", "\u03b1-\u00e9", "\xff\x00", strings.Repeat("x", 300)}[d.below(6)]
}

// place gives one about another, mostly near enough for a hit or a bump, at times anywhere.
func (d *dice) place(about api.Vec) api.Vec {
	part := func(x int64) int64 {
		switch d.below(16) {
		case 0:
			return d.sized()
		case 1:
			return int64(d.number())
		case 2:
			return d.about(x, 20*unit)
		default:
			return d.about(x, 2*unit)
		}
	}
	return at(part(about.X), part(about.Y))
}

// speed gives one of at most most in each part, at times of any size.
func (d *dice) speed(most int) api.Vec {
	part := func() int64 {
		switch d.below(16) {
		case 0:
			return d.sized()
		case 1:
			return int64(d.number())
		case 2, 3, 4:
			return d.about(0, 40)
		default:
			return d.about(0, most)
		}
	}
	return at(part(), part())
}

// or gives a usual number, once in n times one of any size.
func (d *dice) or(n, usual int) int {
	if d.one(n) {
		return d.number()
	}
	return usual
}

func (d *dice) car(about api.Vec) api.Car {
	return api.Car{
		Player:  d.player(),
		Name:    d.name(),
		At:      d.place(about),
		Speed:   d.speed(unit),
		Heading: d.or(6, d.below(256)),
		Health:  d.or(8, d.of(1, 20, 21, 40, 60, 100, 0)),
		Energy:  d.or(8, d.of(100, 99, 95, 12, 11, 8, 7, 4, 3, 50)),
		Ammo:    d.or(8, d.of(20, 19, 1, 0, 5)),
		Cool:    d.or(10, d.of(0, 0, 0, 1, 8)),
		Wait:    d.or(10, d.of(0, 0, 0, 0, 0, 1, 2, 40)),
		Spawns:  d.or(4, d.below(9)),
		Score:   d.or(4, d.below(9)),
	}
}

func (d *dice) shot(about api.Vec) api.Shot {
	return api.Shot{
		Id:     d.or(2, d.below(9)),
		Player: d.player(),
		At:     d.place(about),
		Speed:  d.speed(4 * unit),
		Left:   d.or(6, d.of(48, 9, 2, 1)),
	}
}

// hub gives a place about which much happens: in a cell that is mostly no wall, often near another cell.
func (d *dice) hub(b *board.Board) api.Vec {
	wide, high := b.Size()
	p := at(int64(d.below(wide*side)), int64(d.below(high*side)))
	for n := 0; n < 20 && b.Solid(p); n++ {
		p = at(int64(d.below(wide*side)), int64(d.below(high*side)))
	}
	if d.one(4) {
		list := b.Spawns()
		p = list[d.below(len(list))]
	}
	return p
}

// state gives one such as no run makes.
func (d *dice) state(b *board.Board) api.State {
	s := api.State{Tick: uint64(d.of(0, 6, 7, 8, 15)), Next: d.or(2, 70)}
	if d.one(4) {
		s.Tick = uint64(d.number())
	}
	about := d.hub(b)
	for range d.of(0, 1, 2, 3, 4, 6, 8) {
		s.Cars = append(s.Cars, d.car(about))
	}
	if d.one(3) {
		slices.SortStableFunc(s.Cars, func(x, y api.Car) int { return cmp.Compare(x.Player, y.Player) })
	}
	many := d.of(0, 1, 2, 5, 9)
	if d.one(6) {
		many = 60 + d.below(7)
	}
	for range many {
		s.Shots = append(s.Shots, d.shot(about))
	}
	return s
}

// intents gives a list for cars of a state, rising, mostly legal, at times spoilt.
func (d *dice) intents(s api.State) []api.Intent {
	var list []api.Intent
	for _, c := range s.Cars {
		is := slices.ContainsFunc(list, func(i api.Intent) bool { return i.Player == c.Player })
		if !is && !d.one(5) {
			list = append(list, api.Intent{Player: c.Player, Throttle: d.of(-100, 100, 0, 1, -1, d.below(201)-100), Turn: d.below(17) - 8, Fire: !d.one(3), Boost: d.one(2)})
		}
	}
	slices.SortFunc(list, func(x, y api.Intent) int { return cmp.Compare(x.Player, y.Player) })
	if len(list) == 0 || !d.one(5) {
		return list
	}
	i := d.below(len(list))
	switch d.below(5) {
	case 0:
		list[i].Throttle = d.of(-101, 101, d.number())
	case 1:
		list[i].Turn = d.of(-9, 9, d.number())
	case 2:
		list[i].Player = d.player()
	case 3:
		list[i] = list[d.below(len(list))]
	case 4:
		list = append(list, list[i])
	}
	return list
}

// label gives a tick mostly, one that may be mostly.
func (d *dice) label(s api.State) api.Label {
	l := tickOf(d.intents(s)...)
	switch d.below(8) {
	case 0:
		l = joinOf(d.player(), d.name())
	case 1:
		l = leaveOf(d.player())
		if len(s.Cars) > 0 && d.one(2) {
			l.Player = s.Cars[d.below(len(s.Cars))].Player
		}
	}
	if d.one(12) {
		l.Kind = d.of(0, 1, 2, 3, 4, d.number())
	}
	if d.one(16) {
		l.Player = d.player()
	}
	if d.one(16) {
		l.Name = d.name()
	}
	if d.one(16) {
		l.Intents = d.intents(s)
	}
	return l
}

// wantPlain holds Step against the plain reading, and answers what it answers.
func wantPlain(t *testing.T, b *board.Board, s api.State, l api.Label) (api.State, api.Errno) {
	t.Helper()
	got, e := rule.Step(b, s, l)
	want, wantE := plainStep(b, s, l)
	if e != wantE || !same(got, want) {
		t.Fatalf("%q: Step(%+v, %+v) =\n%+v, %v, want\n%+v, %v", b.Print(), s, l, got, e, want, wantE)
	}
	return got, e
}

// P17.1, P17.2: any state and any label; labels one after the other, from there on.
func TestAny(t *testing.T) {
	times := 6000
	if testing.Short() {
		times = 300
	}
	d := dice(2463534242)
	counts := map[string]int{}
	for _, b := range boards(t) {
		for range times {
			s := d.state(b)
			for range 1 + d.below(4) {
				l := d.label(s)
				next, e := wantPlain(t, b, s, l)
				if e != api.OK {
					counts[e.Error()]++
					continue
				}
				count(counts, s, next, l)
				s = next
			}
		}
	}
	for _, what := range []string{"error 170", "error 171", "join", "leave", "tick", "fired", "refused to fire", "wreck", "point", "coming", "shot gone"} {
		if counts[what] < times/10 {
			t.Errorf("%s came only %d times", what, counts[what])
		}
	}
}

// count notes what happened in a step, so that a test can tell that it asked for all of it.
func count(counts map[string]int, s, next api.State, l api.Label) {
	switch l.Kind {
	case api.LbJoin:
		counts["join"]++
		return
	case api.LbLeave:
		counts["leave"]++
		return
	}
	counts["tick"]++
	fires := slices.ContainsFunc(l.Intents, func(i api.Intent) bool { return i.Fire })
	switch {
	case next.Next != s.Next:
		counts["fired"]++
	case fires && len(s.Shots) >= 64:
		counts["no room for a shot"]++
		fallthrough
	case fires:
		counts["refused to fire"]++
	}
	if len(next.Shots) < len(s.Shots)+next.Next-s.Next {
		counts["shot gone"]++
	}
	for i := range s.Cars {
		if next.Cars[i].Wait == 40 && s.Cars[i].Wait != 41 {
			counts["wreck"]++
		}
		if next.Cars[i].Score != s.Cars[i].Score {
			counts["point"]++
		}
		if next.Cars[i].Spawns != s.Cars[i].Spawns {
			counts["coming"]++
		}
	}
}

// P17.1: a state with very many cars and shots, of few players and of many.
func TestAnyGreat(t *testing.T) {
	many := 700
	if testing.Short() {
		many = 200
	}
	b := parsed(t, hall)
	d := dice(4)
	for _, players := range []int{3, 1000} {
		var s api.State
		for range many {
			c := d.car(d.hub(b))
			c.Player = d.below(players) - players/2
			s.Cars = append(s.Cars, c)
			x := d.shot(d.hub(b))
			x.Player = d.below(players) - players/2
			s.Shots = append(s.Shots, x)
		}
		if _, e := wantPlain(t, b, s, tickOf()); e != api.OK {
			t.Error(e)
		}
		s.Shots = s.Shots[:10]
		var list []api.Intent
		for _, c := range s.Cars {
			list = append(list, api.Intent{Player: c.Player, Turn: c.Player % 9, Fire: true})
		}
		slices.SortFunc(list, func(x, y api.Intent) int { return x.Player - y.Player })
		list = slices.CompactFunc(list, func(x, y api.Intent) bool { return x.Player == y.Player })
		if _, e := wantPlain(t, b, s, tickOf(list...)); e != api.OK {
			t.Error(e)
		}
	}
}

// P17.2, R13: the same arguments have the same answer, whatever was asked between; a board stays as it is.
func TestAnyOnce(t *testing.T) {
	d := dice(55)
	for _, b := range boards(t) {
		print := b.Print()
		s := d.state(b)
		l := d.label(s)
		want, wantE := rule.Step(b, s, l)
		for range 50 {
			other := d.state(b)
			rule.Step(b, other, d.label(other))
			if got, e := rule.Step(b, s, l); e != wantE || !same(got, want) {
				t.Fatalf("Step(%+v, %+v) = %+v, %v, once it was %+v, %v", s, l, got, e, want, wantE)
			}
		}
		if b.Print() != print {
			t.Fatalf("the board %q has become %q", print, b.Print())
		}
	}
}
