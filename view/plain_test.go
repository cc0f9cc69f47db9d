package view_test

import (
	"math"
	"testing"

	"joust/api"
	"joust/view"
)

// This part is R9, with what the chapter says more of it, word by word: every entity is looked at, none is sorted, and neither vec nor grid is asked.

// plainOf is the view of a player.
func plainOf(s api.State, player, radius, show int) (api.View, api.Errno) {
	for _, own := range s.Cars {
		if own.Player == player {
			return api.View{Tick: s.Tick, Own: own, Seen: plainSeen(s, own, radius, show)}, 0
		}
	}
	return api.View{}, 210
}

// plainSeen takes those of the near ones that have fewer than show others ahead of them.
func plainSeen(s api.State, own api.Car, radius, show int) []api.Seen {
	near := plainNear(s, own, radius)
	var told []api.Seen
	for _, x := range near {
		ahead := 0
		for _, y := range near {
			if plainAhead(own.At, y, x) {
				ahead++
			}
		}
		if ahead < plainKept(show, 32) {
			told = plainInsert(told, x)
		}
	}
	return told
}

func plainNear(s api.State, own api.Car, radius int) []api.Seen {
	r := uint64(plainKept(radius, 1024)) * 65536
	var near []api.Seen
	for _, x := range plainThings(s, own.Player) {
		if plainFar(own.At, x.At) <= r*r {
			near = append(near, x)
		}
	}
	return near
}

// plainThings gives all that a player may see, at whatever distance.
func plainThings(s api.State, player int) []api.Seen {
	var list []api.Seen
	for i, c := range s.Cars {
		first := true
		for _, x := range s.Cars[:i] {
			first = first && x.Player != c.Player
		}
		if first && c.Player != player && !(c.Wait > 0) {
			list = append(list, api.Seen{Kind: 1, Id: c.Player, At: c.At, Heading: c.Heading})
		}
	}
	for i, x := range s.Shots {
		first := true
		for _, y := range s.Shots[:i] {
			first = first && y.Id != x.Id
		}
		if first {
			list = append(list, api.Seen{Kind: 2, Id: x.Id, At: x.At})
		}
	}
	return list
}

func plainKept(x, most int) int {
	if x < 0 {
		return 0
	}
	if x > most {
		return most
	}
	return x
}

// plainFar is the squared distance.
func plainFar(a, b api.Vec) uint64 {
	part := func(x, y int64) uint64 {
		if x < y {
			x, y = y, x
		}
		return min(uint64(x)-uint64(y), 1<<31-1)
	}
	x, y := part(a.X, b.X), part(a.Y, b.Y)
	return x*x + y*y
}

// plainAhead tells whether a thing goes ahead of another one, where there is no room for all.
func plainAhead(from api.Vec, x, y api.Seen) bool {
	if a, b := plainFar(from, x.At), plainFar(from, y.At); a != b {
		return a < b
	}
	return plainBefore(x, y)
}

// plainBefore tells whether a thing is told ahead of another one.
func plainBefore(x, y api.Seen) bool {
	if x.Kind != y.Kind {
		return x.Kind < y.Kind
	}
	return x.Id < y.Id
}

// plainInsert lays a thing ahead of the first one that is told behind it.
func plainInsert(list []api.Seen, x api.Seen) []api.Seen {
	var longer []api.Seen
	for i, y := range list {
		if plainBefore(x, y) {
			return append(append(longer, x), list[i:]...)
		}
		longer = append(longer, y)
	}
	return append(longer, x)
}

// plainPlayers gives the players of a state, each once, rising.
func plainPlayers(s api.State) []int {
	var list []api.Seen
	there := map[int]int{}
	for _, c := range s.Cars {
		if there[c.Player]++; there[c.Player] == 1 {
			list = plainInsert(list, api.Seen{Id: c.Player})
		}
	}
	var players []int
	for _, x := range list {
		players = append(players, x.Id)
	}
	return players
}

// wantPlain holds Of of all players that are there, and of some that are not, and All, against the plain look.
func wantPlain(t *testing.T, s api.State, radius, show int) {
	t.Helper()
	players := plainPlayers(s)
	views := view.All(s, radius, show)
	if len(views) != len(players) {
		t.Fatalf("All(%+v, %d, %d): %d views, want %d", s, radius, show, len(views), len(players))
	}
	for i, p := range players {
		want, _ := plainOf(s, p, radius, show)
		if v := asked(t, s, p, radius, show); !same(v, want) {
			t.Fatalf("Of(%+v, %d, %d, %d): %+v, want %+v", s, p, radius, show, v, want)
		}
		if !same(views[i], want) {
			t.Fatalf("All(%+v, %d, %d): %+v, want %+v", s, radius, show, views[i], want)
		}
	}
	for _, p := range []int{0, 1, 2, 3, 4, 5, -1, 31, math.MinInt, math.MaxInt} {
		want, e := plainOf(s, p, radius, show)
		if v, got := view.Of(s, p, radius, show); got != e || !same(v, want) {
			t.Fatalf("Of(%+v, %d, %d, %d): %+v, %v, want %+v, %v", s, p, radius, show, v, got, want, e)
		}
	}
}

// tally counts what of a state and a question was there, so that a test knows what it has asked.
func tally(seen map[string]int, s api.State, radius, show int) {
	for _, p := range plainPlayers(s) {
		v, _ := plainOf(s, p, radius, show)
		near := plainNear(s, v.Own, radius)
		if v.Own.Wait > 0 {
			seen["of a wreck"]++
		}
		switch len(v.Seen) {
		case 0:
			seen["none told"]++
		case len(near):
			seen["all near ones told"]++
		default:
			seen["some near ones told"]++
			tallyCut(seen, v, near)
		}
		if len(near) < len(plainThings(s, p)) {
			seen["some beyond"]++
		}
	}
}

// tallyCut counts views whose farthest thing is equally far away as one that is not told, of its kind or of the other one.
func tallyCut(seen map[string]int, v api.View, near []api.Seen) {
	last := v.Seen[0]
	for _, x := range v.Seen {
		if plainAhead(v.Own.At, last, x) {
			last = x
		}
	}
	for _, x := range near {
		if plainAhead(v.Own.At, last, x) && plainFar(v.Own.At, last.At) == plainFar(v.Own.At, x.At) {
			if x.Kind == last.Kind {
				seen["cut by number"]++
			} else {
				seen["cut by kind"]++
			}
			return
		}
	}
	seen["cut by distance"]++
}

// P21.1, P21.2: any states, such as no server makes among them, any radius, any show: as a plain look at every entity.
func TestAnyStates(t *testing.T) {
	times := 4000
	if testing.Short() {
		times = 400
	}
	d := dice(88172645463325252)
	seen := map[string]int{}
	for range times {
		s := d.state()
		radius, show := d.radius(), d.show()
		wantPlain(t, s, radius, show)
		tally(seen, s, radius, show)
	}
	for _, what := range []string{"of a wreck", "none told", "all near ones told", "some near ones told", "some beyond", "cut by number", "cut by kind", "cut by distance"} {
		if seen[what] < times/10 {
			t.Errorf("%s: %d times alone", what, seen[what])
		}
	}
}

// P21.1, P21.2: so many entities, so far apart, that looking at all of them is not what the grid does.
func TestManyEntities(t *testing.T) {
	many := 500
	if testing.Short() {
		many = 250
	}
	d := dice(521288629)
	for _, wide := range []int64{30, 300, 3000} {
		s := api.State{Tick: 4}
		for i := range many {
			s.Shots = append(s.Shots, shotAt(d.below(many), units(d.about(0, wide), d.about(0, wide))))
			if i%20 == 0 {
				s.Cars = append(s.Cars, carAt(d.below(40), units(d.about(0, wide), d.about(0, wide))))
			}
		}
		for _, radius := range []int{0, 1, 7, 60, 1024} {
			wantPlain(t, s, radius, 32)
			wantPlain(t, s, radius, 4)
		}
	}
}
