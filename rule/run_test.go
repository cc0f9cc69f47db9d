package rule_test

import (
	"strings"
	"testing"

	"joust/api"
	"joust/board"
	"joust/rule"
	"joust/vec"
)

// wish gives an intent for a car of a match: most turn towards another car and fire when it is ahead.
func (d *dice) wish(s api.State, c api.Car) api.Intent {
	i := api.Intent{Player: c.Player, Throttle: d.of(100, 100, -100, 0, d.below(201)-100), Turn: d.below(17) - 8, Fire: d.one(3), Boost: d.one(5)}
	other := s.Cars[d.below(len(s.Cars))]
	if other.Player == c.Player || other.Wait > 0 || d.one(8) {
		return i
	}
	turn := (vec.Toward(c.At, other.At)-c.Heading+384)%256 - 128
	i.Turn = kept(turn, 8)
	i.Fire = turn == i.Turn
	return i
}

// play gives the next label of a match of at most so many players.
func (d *dice) play(s api.State, most int) api.Label {
	if len(s.Cars) < most && d.one(3) {
		for {
			player := d.below(32)
			if !has(s, player) {
				return joinOf(player, d.name())
			}
		}
	}
	if len(s.Cars) > 0 && d.one(150) {
		return leaveOf(s.Cars[d.below(len(s.Cars))].Player)
	}
	var list []api.Intent
	for _, c := range s.Cars {
		if !d.one(10) {
			list = append(list, d.wish(s, c))
		}
	}
	return tickOf(list...)
}

func has(s api.State, player int) bool {
	for _, c := range s.Cars {
		if c.Player == player {
			return true
		}
	}
	return false
}

func inside(n, low, high int) bool { return n >= low && n <= high }

// wantKept is P17.3.
func wantKept(t *testing.T, b *board.Board, s api.State) {
	t.Helper()
	for i, c := range s.Cars {
		ok := i == 0 || s.Cars[i-1].Player < c.Player
		ok = ok && inside(c.Player, 0, 31) && inside(c.Health, 0, 100) && inside(c.Energy, 0, 100) && inside(c.Ammo, 0, 20)
		ok = ok && inside(c.Cool, 0, 8) && inside(c.Wait, 0, 40) && inside(c.Heading, 0, 255) && c.Spawns >= 0 && c.Score >= 0
		ok = ok && max(c.Speed.X, c.Speed.Y, -c.Speed.X, -c.Speed.Y) <= 65536
		ok = ok && (c.Wait > 0) == (c.Health == 0) && (c.Wait == 0 || c.Speed == at(0, 0))
		if !ok || b.Blocked(c.At, 98304) {
			t.Fatalf("%q: car %d of %+v", b.Print(), i, s)
		}
	}
	for i, x := range s.Shots {
		ok := i == 0 || s.Shots[i-1].Id < x.Id
		if !ok || x.Id < 0 || x.Id >= s.Next || !has(s, x.Player) || !inside(x.Left, 1, 48) || b.Solid(x.At) {
			t.Fatalf("%q: shot %d of %+v", b.Print(), i, s)
		}
	}
	if len(s.Shots) > 64 {
		t.Fatalf("%d shots fly", len(s.Shots))
	}
}

// wantGrown is P17.4.
func wantGrown(t *testing.T, b *board.Board, s, next api.State) {
	t.Helper()
	if next.Tick != s.Tick+1 || len(next.Cars) != len(s.Cars) {
		t.Fatalf("%+v has become %+v", s, next)
	}
	points, wrecks := 0, 0
	for i, c := range s.Cars {
		then := next.Cars[i]
		points += then.Score - c.Score
		if then.Wait == 40 {
			wrecks++
		}
		came, gain, rounds := c.Wait == 1, 1, 0
		if b.At(then.At) == 'E' {
			gain = 5
		}
		if b.At(then.At) == 'A' && next.Tick%8 == 0 {
			rounds = 1
		}
		if then.Wait > 0 {
			gain, rounds = 0, 0
		}
		ok := then.Player == c.Player && then.Name == c.Name && then.Score >= c.Score
		if came {
			ok = ok && then.Spawns == c.Spawns+1 && then.Energy >= 88 && then.Ammo >= 19
		} else {
			ok = ok && then.Spawns == c.Spawns && then.Energy <= c.Energy+gain && then.Ammo <= c.Ammo+rounds && then.Health <= c.Health
		}
		if c.Wait > 1 {
			c.Wait--
			c.Score = then.Score
			ok = ok && then == c
		}
		if !ok {
			t.Fatalf("%q: at tick %d %+v has become %+v", b.Print(), next.Tick, s.Cars[i], then)
		}
	}
	if points != wrecks {
		t.Fatalf("%d points for %d wrecks: %+v has become %+v", points, wrecks, s, next)
	}
}

// wantApart is P17.5.
func wantApart(t *testing.T, s, next api.State, l api.Label) {
	t.Helper()
	without := func(s api.State) api.State {
		out := api.State{Tick: s.Tick, Next: s.Next}
		for _, c := range s.Cars {
			if c.Player != l.Player {
				out.Cars = append(out.Cars, c)
			}
		}
		for _, x := range s.Shots {
			if x.Player != l.Player {
				out.Shots = append(out.Shots, x)
			}
		}
		return out
	}
	if !same(without(s), without(next)) || has(next, l.Player) != (l.Kind == api.LbJoin) || has(s, l.Player) != (l.Kind == api.LbLeave) {
		t.Fatalf("%+v made of %+v %+v", l, s, next)
	}
}

// wantMatch plays a match, holds each step of it against the promises and the plain reading, and answers its labels.
func wantMatch(t *testing.T, d *dice, b *board.Board, most, steps int, counts map[string]int) []api.Label {
	t.Helper()
	s := rule.Empty()
	var labels []api.Label
	for range steps {
		l := d.play(s, most)
		labels = append(labels, l)
		next, e := wantPlain(t, b, s, l)
		if e != api.OK {
			t.Fatalf("%+v of %+v: %v", l, s, e)
		}
		wantKept(t, b, next)
		if l.Kind == api.LbTick {
			wantGrown(t, b, s, next)
		} else {
			wantApart(t, s, next, l)
		}
		count(counts, s, next, l)
		s = next
	}
	got, e := rule.Run(b, labels)
	if e != api.OK || !same(got, s) {
		t.Fatalf("%q: Run of %d labels = %+v, %v, step by step it is %+v", b.Print(), len(labels), got, e, s)
	}
	return labels
}

// P17.3, P17.4, P17.5: matches of few players and of many, on all boards.
func TestRunMatches(t *testing.T) {
	steps := 1500
	if testing.Short() {
		steps = 200
	}
	d := dice(314159265)
	counts := map[string]int{}
	for _, b := range boards(t) {
		for _, most := range []int{1, 2, 5, 12} {
			wantMatch(t, &d, b, most, steps, counts)
		}
		wantMatch(t, &d, b, 32, steps/3, counts)
	}
	for _, what := range []string{"join", "leave", "tick", "fired", "refused to fire", "wreck", "point", "coming", "shot gone"} {
		if counts[what] < steps/100 {
			t.Errorf("%s came only %d times", what, counts[what])
		}
	}
}

// P17.3: 32 cars that all fire as soon as they can, where nothing is in the way, have MaxShots shots in the air and no more.
func TestRunFull(t *testing.T) {
	b := parsed(t, strings.Repeat(".S"+strings.Repeat(".", 62)+"\n", 64))
	s := rule.Empty()
	var intents []api.Intent
	for player := range 32 {
		s = stepped(t, b, s, joinOf(player, "x"))
		intents = append(intents, api.Intent{Player: player, Fire: true})
	}
	counts := map[string]int{}
	for range 120 {
		next, e := wantPlain(t, b, s, tickOf(intents...))
		if e != api.OK {
			t.Fatal(e)
		}
		wantKept(t, b, next)
		wantGrown(t, b, s, next)
		count(counts, s, next, tickOf(intents...))
		if len(next.Shots) == 64 {
			counts["full"]++
		}
		s = next
	}
	if counts["full"] < 30 || counts["no room for a shot"] < 30 {
		t.Errorf("%v", counts)
	}
}

// P17.2: Run of labels and more is Step of the more from Run of the first ones, at every place, and of any more.
func TestRunAndMore(t *testing.T) {
	d := dice(8675309)
	counts := map[string]int{}
	for _, b := range boards(t) {
		labels := wantMatch(t, &d, b, 6, 120, counts)
		for n := range len(labels) + 1 {
			ahead, e := rule.Run(b, labels[:n])
			if e != api.OK {
				t.Fatal(e)
			}
			more := []api.Label{d.label(ahead)}
			if n < len(labels) {
				more = append(more, labels[n])
			}
			for _, l := range more {
				got, gotE := rule.Run(b, append(labels[:n:n], l))
				want, wantE := rule.Step(b, ahead, l)
				if gotE != wantE || !same(got, want) {
					t.Fatalf("%q: Run of %d labels and %+v = %+v, %v, Step = %+v, %v", b.Print(), n, l, got, gotE, want, wantE)
				}
			}
		}
	}
}

// The first error ends a Run, whatever comes behind it.
func TestRunErrors(t *testing.T) {
	b := parsed(t, example)
	join, bad, none := joinOf(0, "ann"), api.Label{Kind: 9}, leaveOf(4)
	for _, x := range []struct {
		labels []api.Label
		want   api.Errno
	}{
		{nil, api.OK},
		{[]api.Label{join, tickOf(), leaveOf(0)}, api.OK},
		{[]api.Label{bad}, api.ErrLabel},
		{[]api.Label{none}, api.ErrPlayer},
		{[]api.Label{join, join}, api.ErrPlayer},
		{[]api.Label{bad, none}, api.ErrLabel},
		{[]api.Label{none, bad}, api.ErrPlayer},
		{[]api.Label{join, tickOf(), bad, none, join}, api.ErrLabel},
		{[]api.Label{join, tickOf(), none, bad, join}, api.ErrPlayer},
		{[]api.Label{join, tickOf(api.Intent{Player: 1}), tickOf()}, api.ErrLabel},
		{[]api.Label{tickOf(api.Intent{}), join}, api.ErrLabel},
		{[]api.Label{join, leaveOf(0), leaveOf(0)}, api.ErrPlayer},
		{[]api.Label{join, leaveOf(0), tickOf(api.Intent{})}, api.ErrLabel},
	} {
		got, e := rule.Run(b, x.labels)
		if e != x.want || x.want != api.OK && !zero(got) {
			t.Errorf("Run(%+v) = %+v, %v, want %v", x.labels, got, e, x.want)
		}
	}
}

// A player who leaves and joins again begins anew: Score and Spawns 0, none of the shots; Next goes on.
func TestRunAgain(t *testing.T) {
	b := parsed(t, hall)
	s := stepped(t, b, rule.Empty(), joinOf(0, "ann"), joinOf(2, "bob"), tickOf(api.Intent{Player: 0, Fire: true}, api.Intent{Player: 2, Fire: true, Turn: 1}))
	s.Cars[0].Score, s.Cars[0].Spawns = 3, 4
	s = stepped(t, b, s, leaveOf(0), joinOf(0, "eve"))
	if c := s.Cars[0]; c != parked(0, "eve", units(12, 12)) || len(s.Shots) != 1 || s.Shots[0].Player != 2 || s.Next != 2 || s.Tick != 1 {
		t.Errorf("%+v", s)
	}
}
