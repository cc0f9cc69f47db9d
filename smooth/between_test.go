package smooth_test

import (
	"math"
	"slices"
	"testing"

	"joust/api"
	"joust/board"
	"joust/rule"
	"joust/smooth"
	"joust/view"
)

func seen(kind, id, units, heading int) api.Seen {
	return api.Seen{Kind: kind, Id: id, At: api.Vec{X: int64(units) * api.One}, Heading: heading}
}

func wantShown(t *testing.T, what string, got []api.Place, want ...api.Place) {
	t.Helper()
	if !allSame(got, want) {
		t.Errorf("%s: %v, want %v", what, got, want)
	}
}

// P25.3: the own car first; it is shown if both are of one player and neither is a wreck.
func TestBetweenOwn(t *testing.T) {
	own := func(player, wait, units, heading int) api.View {
		return api.View{Own: api.Car{Player: player, Wait: wait, At: api.Vec{X: int64(units) * api.One, Y: api.One}, Heading: heading}}
	}
	from, to := own(3, 0, 2, 250), own(3, 0, 4, 6)
	wantShown(t, "one player", smooth.Between(from, to, 0.5), at(3, 1, 0))
	wantShown(t, "at 0", smooth.Between(from, to, minus), at(2, 1, 351.5625))
	wantShown(t, "at 1", smooth.Between(from, to, 1), at(4, 1, 8.4375))
	wantShown(t, "another player", smooth.Between(from, own(4, 0, 4, 6), 0.5))
	wantShown(t, "the first a wreck", smooth.Between(own(3, 1, 2, 250), to, 0.5))
	wantShown(t, "the second a wreck", smooth.Between(from, own(3, 1, 4, 6), 0.5))
	wantShown(t, "both wrecks", smooth.Between(own(3, 40, 2, 250), own(3, 39, 4, 6), 0.5))
	wantShown(t, "a wreck at 0", smooth.Between(from, own(3, math.MaxInt, 4, 6), 0))
	wantShown(t, "a wreck at 1", smooth.Between(own(3, 2, 2, 250), to, 1))
	wantShown(t, "Wait below 0", smooth.Between(own(3, -1, 2, 250), own(3, math.MinInt, 4, 6), 0.5), at(3, 1, 0))
	wantShown(t, "players of no arena", smooth.Between(own(-7, 0, 2, 250), own(-7, 0, 4, 6), 0.5), at(3, 1, 0))
	wantShown(t, "empty views", smooth.Between(api.View{}, api.View{}, 0.5), at(0, 0, 0))
	other := own(3, 0, 4, 6)
	other.Tick, other.Own.Name, other.Own.Health, other.Own.Speed, other.Own.Score, other.Own.Cool = 9, "other", -3, api.Vec{X: 5}, 8, 7
	wantShown(t, "the rest of a car", smooth.Between(from, other, 0.5), at(3, 1, 0))
}

// P25.3: things of the first view, in its order, that the other has by Kind and Id: not at all, in another order, twice.
func TestBetweenSeen(t *testing.T) {
	a := api.View{Own: api.Car{Wait: 1}, Seen: []api.Seen{seen(1, 2, 1, 64), seen(1, 5, 0, 0), seen(2, 2, 3, 0), seen(2, 9, 5, 0)}}
	with := func(s ...api.Seen) api.View { return api.View{Seen: s} }
	first, third, last := at(2, 0, 90), at(4, 0, 0), at(6, 0, 0)
	b1, b2, b9 := seen(1, 2, 3, 64), seen(2, 2, 5, 0), seen(2, 9, 7, 0)
	for _, c := range []struct {
		what string
		b    api.View
		want []api.Place
	}{
		{"one has not", with(b1, b2, b9), []api.Place{first, third, last}},
		{"another order", with(b9, seen(1, 7, 0, 0), b2, b1), []api.Place{first, third, last}},
		{"two the first counts", with(b1, seen(1, 2, 99, 0), b2, seen(2, 2, 77, 3), b9), []api.Place{first, third, last}},
		{"two far apart", with(b2, b1, b9, seen(2, 9, 0, 0), seen(1, 2, 0, 0), seen(2, 2, 0, 0)), []api.Place{first, third, last}},
		{"of another kind", with(seen(3, 2, 3, 64), seen(1, 9, 7, 0), seen(2, 5, 1, 0)), nil},
		{"of another id", with(seen(1, 3, 3, 64), seen(2, -2, 5, 0)), nil},
		{"kind and id exchanged", with(seen(2, 1, 3, 64), seen(9, 2, 3, 0), seen(5, 1, 3, 0)), nil},
		{"nothing", with(), nil},
	} {
		wantShown(t, c.what, smooth.Between(a, c.b, 0.5), c.want...)
	}
	wantShown(t, "nothing in the first", smooth.Between(api.View{Own: api.Car{Wait: 1}}, with(b1, b2), 0.5))
}

// P25.3, hard places: two things of one Kind and Id in the first view are both told, each on its way to the first such of the other.
func TestBetweenTwice(t *testing.T) {
	a := api.View{Seen: []api.Seen{seen(2, 9, 0, 0), seen(1, 4, 8, 0), seen(2, 9, 2, 0), seen(2, 9, 0, 0)}}
	b := api.View{Own: api.Car{Player: 1}, Seen: []api.Seen{seen(2, 9, 4, 0), seen(2, 9, 100, 0)}}
	wantShown(t, "twice", smooth.Between(a, b, 0.5), at(2, 0, 0), at(3, 0, 0), at(2, 0, 0))
	wantShown(t, "twice, at 0", smooth.Between(a, b, 0), at(0, 0, 0), at(2, 0, 0), at(0, 0, 0))
	wantShown(t, "twice, at 1", smooth.Between(a, b, 1), at(4, 0, 0), at(4, 0, 0), at(4, 0, 0))
	wantShown(t, "the other way", smooth.Between(b, a, 0.25), at(3, 0, 0), at(75, 0, 0))
	both := api.View{Own: api.Car{Wait: 1}, Seen: []api.Seen{seen(2, 9, 0, 0), seen(2, 9, 1, 0)}}
	wantShown(t, "with itself", smooth.Between(both, both, 1), at(0, 0, 0), at(0, 0, 0))
}

// P25.3: Kinds and Ids are any ints; a car's Id and a shot's are not one thing, nor the own car's Player and a car's Id.
func TestBetweenAnyNames(t *testing.T) {
	names := []int{0, 1, 2, -1, 256, -256, 1 << 32, 1<<32 + 1, math.MaxInt, math.MinInt}
	var a, b api.View
	a.Own.Wait = 1
	var want []api.Place
	for _, kind := range names {
		for _, id := range names {
			a.Seen = append(a.Seen, seen(kind, id, len(want), 0))
			b.Seen = append(b.Seen, seen(kind, id, len(want)+2, 0))
			want = append(want, at(float32(len(want)+1), 0, 0))
		}
	}
	slices.Reverse(b.Seen)
	wantShown(t, "any names", smooth.Between(a, b, 0.5), want...)
	own := api.View{Own: api.Car{Player: 4}, Seen: []api.Seen{seen(1, 4, 1, 0)}}
	wantShown(t, "the own car's number", smooth.Between(own, api.View{Own: api.Car{Player: 4}}, 0.5), at(0, 0, 0))
}

// P25.3: any views, against the plain reading.
func TestBetweenPlain(t *testing.T) {
	d := dice(12)
	for range 30000 {
		a, b, s := d.view(), d.view(), d.share()
		if l, want := smooth.Between(a, b, s), plainBetween(a, b, s); !allSame(l, want) {
			t.Fatalf("Between(%v, %v, %v) = %v, want %v", a, b, s, l, want)
		}
	}
}

// R11: a call ends, in a time that goes with what is handed in: all by all of these would be 10^11 steps.
func TestBetweenLongViews(t *testing.T) {
	const n = 300000
	var a, b api.View
	for i := range n {
		a.Seen = append(a.Seen, seen(2, i, 1, 0))
		b.Seen = append(b.Seen, seen(2, n-1-i, 3, 0))
	}
	l := smooth.Between(a, b, 0.5)
	if len(l) != n+1 || l[1] != at(2, 0, 0) || l[n] != at(2, 0, 0) {
		t.Errorf("%d places", len(l))
	}
}

// P25.3, P25.6 with views of an arena that is played: at 0 the first view's things, at 1 the other's, between them on the straight way.
func TestBetweenViewsOfAnArena(t *testing.T) {
	b, e := board.Parse("########\n#S....S#\n#......#\n#..S...#\n#......#\n#S.....#\n########\n")
	if e != api.OK {
		t.Fatal(e)
	}
	d := dice(13)
	var labels []api.Label
	for player := range 4 {
		labels = append(labels, api.Label{Kind: api.LbJoin, Player: player, Name: "p"})
	}
	told := 0
	last := map[int]api.View{}
	for range 120 {
		label := api.Label{Kind: api.LbTick}
		for player := range 4 {
			label.Intents = append(label.Intents, api.Intent{Player: player, Throttle: 100, Turn: d.below(17) - 8, Fire: true})
		}
		labels = append(labels, label)
		s, e := rule.Run(b, labels)
		if e != api.OK {
			t.Fatal(e)
		}
		for _, v := range view.All(s, 40, 8) {
			before, ok := last[v.Own.Player]
			last[v.Own.Player] = v
			if !ok {
				continue
			}
			told += wantArenaWay(t, before, v)
		}
	}
	if told < 500 {
		t.Errorf("only %d things were shown", told)
	}
}

// wantArenaWay asks what is shown between two views of an arena, and tells how much that is.
func wantArenaWay(t *testing.T, a, b api.View) int {
	t.Helper()
	from, half, to := smooth.Between(a, b, 0), smooth.Between(a, b, 0.5), smooth.Between(a, b, 1)
	back := smooth.Between(b, a, 0)
	if !allSame(to, back) { // both views tell their things by kind and id
		t.Fatalf("at 1: %v, the other way at 0: %v", to, back)
	}
	for i := range half {
		x, y := (float64(from[i].X)+float64(to[i].X))/2, (float64(from[i].Y)+float64(to[i].Y))/2
		if math.Abs(float64(half[i].X)-x) > 1e-4 || math.Abs(float64(half[i].Y)-y) > 1e-4 {
			t.Fatalf("from %v to %v, half the way is %v", from[i], to[i], half[i])
		}
		if off := turned(from[i].Angle, half[i].Angle) - turned(half[i].Angle, to[i].Angle); math.Abs(off) > 1e-4 {
			t.Fatalf("from %v to %v, half the turn is %v", from[i], to[i], half[i])
		}
	}
	return len(half)
}
