package shot_test

import (
	"slices"
	"testing"

	"joust/api"
	"joust/board"
	"joust/shot"
)

// places gives a shot and the four places on its way, were there no walls and no cars.
func places(s api.Shot) []api.Vec {
	list := []api.Vec{s.At}
	for n := range 4 {
		list = append(list, quarter(list[n], s.Speed))
	}
	return list
}

// 16.3: Id, Player and Speed stay, however the shot ends.
func TestFollowStays(t *testing.T) {
	d := dice(7)
	for _, b := range boards(t) {
		for range 3000 {
			s := d.shot(b)
			got, hit, on := shot.Move(b, d.carsAbout(b, s), s)
			if got.Id != s.Id || got.Player != s.Player || got.Speed != s.Speed {
				t.Fatalf("%+v has become %+v", s, got)
			}
			if hit >= 0 && on {
				t.Fatalf("%+v hit the car %d and flies on", s, hit)
			}
		}
	}
}

// 16.3: without cars and walls a shot is four quarters further, and Left one less.
func TestFollowFree(t *testing.T) {
	d := dice(99)
	b := free(t)
	flown := 0
	for range 20000 {
		s := d.shot(b)
		list := places(s)
		if slices.ContainsFunc(list[1:], b.Solid) {
			continue
		}
		flown++
		want := s
		want.At = at(s.At.X+4*(s.Speed.X>>2), s.At.Y+4*(s.Speed.Y>>2))
		want.Left--
		if got, hit, on := shot.Move(b, nil, s); got != want || hit != -1 || on != (want.Left > 0) {
			t.Fatalf("Move(%+v) = %+v, %d, %v, want %+v", s, got, hit, on, want)
		}
	}
	if flown < 2000 {
		t.Errorf("only %d shots flew", flown)
	}
}

// 16.3: a car that is hit is within 98304 of the shot, is not the owner's, is no wreck.
func TestFollowHit(t *testing.T) {
	d := dice(12345)
	hits := 0
	for _, b := range boards(t) {
		for range 5000 {
			s := d.shot(b)
			cars := d.carsAbout(b, s)
			got, hit, _ := shot.Move(b, cars, s)
			if hit == -1 {
				continue
			}
			hits++
			if c := cars[hit]; !near(c.At, got.At) || c.Player == s.Player || c.Wait > 0 {
				t.Fatalf("%+v, become %+v, hit %+v", s, got, c)
			}
		}
	}
	if hits < 5000 {
		t.Errorf("only %d cars were hit", hits)
	}
}

// passed gives a car that a shot flies past: a wreck, the owner's, or one that is far from each of its places.
func (d *dice) passed(s api.Shot) api.Car {
	c := d.car()
	way := places(s)
	c.At = way[d.below(len(way))]
	switch d.below(3) {
	case 0:
		c.Wait = 1 + d.below(60)
	case 1:
		c.Player = s.Player
	default:
		c.Wait = 0
		for slices.ContainsFunc(way[1:], func(p api.Vec) bool { return near(p, c.At) }) {
			c.At = at(c.At.X+d.about(0, 3*reach), c.At.Y+d.about(0, 3*reach))
		}
	}
	return c
}

// 16.3: cars that are wrecks, the owner's or far, more or less of them, anywhere in the list, leave the shot the same, and the car that it hits.
func TestFollowLists(t *testing.T) {
	times := 5000
	if testing.Short() {
		times = 500
	}
	d := dice(31337)
	hits := 0
	for _, b := range boards(t) {
		for range times {
			s := d.shot(b)
			cars := d.carsAbout(b, s)
			before, hit, on := shot.Move(b, cars, s)
			more := slices.Clone(cars)
			for range 1 + d.below(5) {
				i := d.below(len(more) + 1)
				more = slices.Insert(more, i, d.passed(s))
				if hit >= i {
					hit++
				}
			}
			got, gotHit, gotOn := shot.Move(b, more, s)
			if got != before || gotHit != hit || gotOn != on {
				t.Fatalf("%q: of %+v among %+v and more, %+v, became %+v, %d, %v, want %+v, %d, %v", b.Print(), s, cars, more, got, gotHit, gotOn, before, hit, on)
			}
			if hit >= 0 {
				hits++
			}
		}
	}
	if hits < times {
		t.Errorf("only %d cars were hit", hits)
	}
}

// slow gives a speed whose parts are at most 16 units, often just that.
func (d *dice) slow() api.Vec {
	part := func() int64 {
		if d.below(3) == 0 {
			return []int64{16 * unit, -16 * unit, 16*unit - 1, 1 - 16*unit}[d.below(4)]
		}
		return d.about(0, 16*unit)
	}
	return at(part(), part())
}

// 16.4: each quarter leads to the same cell, or to one that touches it.
func TestFollowHalfACell(t *testing.T) {
	d := dice(271828)
	b := free(t)
	for range 20000 {
		s := api.Shot{At: at(int64(d.below(64*side)), int64(d.below(64*side))), Speed: d.slow(), Left: 9}
		way := places(s)
		for n, p := range way[1:] {
			ahead := way[n]
			for _, x := range [][2]int64{{ahead.X, p.X}, {ahead.Y, p.Y}} {
				by, cells := x[1]-x[0], down(x[1], side).Int64()-down(x[0], side).Int64()
				if max(by, -by) > side/2 || max(cells, -cells) > 1 {
					t.Fatalf("%+v moves from %v to %v", s, ahead, p)
				}
			}
		}
		want := way[4]
		if wall := slices.IndexFunc(way[1:], b.Solid); wall >= 0 {
			want = way[1+wall]
		}
		if got, _, _ := shot.Move(b, nil, s); got.At != want {
			t.Fatalf("%+v has become %+v, want it at %v", s, got, want)
		}
	}
}

// fly moves a shot until it is gone, and tells where it came.
func fly(b *board.Board, s api.Shot) []api.Vec {
	var list []api.Vec
	for on := true; on; {
		s, _, on = shot.Move(b, nil, s)
		list = append(list, s.At)
	}
	return list
}

// 16.4: a wall of one cell, from rim to rim, is jumped over by none that is so slow, from whatever place ahead of it.
func TestFollowNoWallIsJumpedOver(t *testing.T) {
	upright := parsed(t, "#########\n#S..#...#\n#...#...#\n#...#...#\n#...#...#\n#########\n")
	level := parsed(t, "######\n#S...#\n#....#\n#....#\n######\n#....#\n#....#\n######\n")
	d := dice(161803)
	met := 0
	for range 20000 {
		s := api.Shot{At: at(side+int64(d.below(3*side)), side+int64(d.below(3*side))), Speed: d.slow(), Left: 48}
		for _, p := range fly(upright, s) {
			if p.X >= 5*side {
				t.Fatalf("%+v jumped over the wall, to %v", s, p)
			}
			if p.X >= 4*side {
				met++
			}
		}
		for _, p := range fly(level, s) {
			if p.Y >= 5*side {
				t.Fatalf("%+v jumped over the wall, to %v", s, p)
			}
		}
		s.At.X = 5*side + s.At.X - side
		for _, p := range fly(upright, s) {
			if p.X < 4*side {
				t.Fatalf("%+v jumped back over the wall, to %v", s, p)
			}
		}
	}
	if met < 2000 {
		t.Errorf("only %d shots met the wall", met)
	}
}
