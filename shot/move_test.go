package shot_test

import (
	"math"
	"slices"
	"testing"

	"joust/api"
	"joust/board"
	"joust/shot"
)

// solid tells whether a place is in a wall, by its cell's number in whole numbers.
func solid(b *board.Board, p api.Vec) bool {
	if max(p.X, p.Y) >= 64*side || min(p.X, p.Y) < 0 {
		return true
	}
	return b.Cell(int(p.X/side), int(p.Y/side)) == '#'
}

// quarter is a place and the fourth of a speed, rounded down, in whole numbers without a bound, kept within api.Max.
func quarter(p, speed api.Vec) api.Vec {
	x, y := down(speed.X, 4), down(speed.Y, 4)
	return at(bounded(x.Add(x, whole(p.X))), bounded(y.Add(y, whole(p.Y))))
}

// plainMove is 16.2, word by word; it tells too in which quarter the shot went (0: in none).
func plainMove(b *board.Board, cars []api.Car, s api.Shot) (api.Shot, int, bool, int) {
	for n := 1; n <= 4; n++ {
		s.At = quarter(s.At, s.Speed)
		if solid(b, s.At) {
			return s, -1, false, n
		}
		hit := slices.IndexFunc(cars, func(c api.Car) bool {
			return c.Wait <= 0 && c.Player != s.Player && near(c.At, s.At)
		})
		if hit >= 0 {
			return s, hit, false, n
		}
	}
	if s.Left == math.MinInt {
		s.Left = math.MaxInt
	} else {
		s.Left--
	}
	return s, -1, s.Left >= 1, 0
}

// wantMove holds Move against the plain reading, and tells how the shot ended: in which quarter, and by which car.
func wantMove(t *testing.T, b *board.Board, cars []api.Car, s api.Shot) (api.Shot, int, bool, int) {
	t.Helper()
	got, gotHit, gotOn := shot.Move(b, cars, s)
	want, hit, on, when := plainMove(b, cars, s)
	if got != want || gotHit != hit || gotOn != on {
		t.Fatalf("%q: Move(%+v, %+v) = %+v, %d, %v, want %+v, %d, %v", b.Print(), cars, s, got, gotHit, gotOn, want, hit, on)
	}
	return got, hit, on, when
}

// row is a shot that flies among cars, and what is answered: where it is then, its Left, the car, whether it is there still.
type row struct {
	what  string
	from  api.Vec
	speed api.Vec
	left  int
	cars  []api.Car
	at    api.Vec
	then  int
	hit   int
	on    bool
}

// wantRows moves the shots of the rows; their owner is the player 1.
func wantRows(t *testing.T, b *board.Board, rows []row) {
	t.Helper()
	for _, x := range rows {
		s := api.Shot{Id: 5, Player: 1, At: x.from, Speed: x.speed, Left: x.left}
		want := api.Shot{Id: 5, Player: 1, At: x.at, Speed: x.speed, Left: x.then}
		if got, hit, on := shot.Move(b, x.cars, s); got != want || hit != x.hit || on != x.on {
			t.Errorf("%s: Move(%+v, %+v) = %+v, %d, %v, want %+v, %d, %v", x.what, x.cars, s, got, hit, on, want, x.hit, x.on)
		}
	}
}

// of gives a car of a player at a place.
func of(player int, place api.Vec) api.Car { return api.Car{Player: player, At: place, Health: 100} }

// waits gives a car with this Wait.
func waits(c api.Car, wait int) api.Car {
	c.Wait = wait
	return c
}

func list(cars ...api.Car) []api.Car { return cars }

// 16.2: the chapter's examples 2 to 4.
func TestMoveExamples(t *testing.T) {
	from, speed, flown := at(1048576, 1048576), at(262144, -1), at(1310720, 1048572)
	c := of(0, at(1200000, 1048576))
	own := c
	own.Player = 1
	wantRows(t, parsed(t, example), []row{
		{"no cars", from, speed, 48, nil, flown, 47, -1, true},
		{"an empty list", from, speed, 48, []api.Car{}, flown, 47, -1, true},
		{"the last tick", from, speed, 1, nil, flown, 0, -1, false},
		{"a car", from, speed, 48, list(c), at(1114112, 1048575), 48, 0, false},
		{"a wreck", from, speed, 48, list(waits(c, 5)), flown, 47, -1, true},
		{"the owner's", from, speed, 48, list(own), flown, 47, -1, true},
		{"the rim", from, at(-4194304, 0), 48, nil, at(0, 1048576), 48, -1, false},
		{"the rim, with a car on it", from, at(-4194304, 0), 48, list(of(0, at(0, 1048576))), at(0, 1048576), 48, -1, false},
	})
}

// 16.2: a quarter of a speed is rounded down, in each part by itself.
func TestMoveQuarters(t *testing.T) {
	b := parsed(t, example)
	for speed, way := range map[int64]int64{
		0: 0, 1: 0, 2: 0, 3: 0, 4: 4, 5: 4, 7: 4, 8: 8, -1: -4, -2: -4, -3: -4, -4: -4, -5: -8, -8: -8, -9: -12,
		196708: 196708, 196709: 196708, 196711: 196708, -196708: -196708, -196709: -196712, 16 * unit: 16 * unit, 16*unit - 1: 16*unit - 4, -16 * unit: -16 * unit, -16*unit + 1: -16 * unit, -16*unit - 1: -16*unit - 4,
	} {
		for _, across := range []int64{0, -1, 7} {
			side := map[int64]int64{0: 0, -1: -4, 7: 4}[across]
			wantRows(t, b, []row{
				{"along X", units(30, 30), at(speed, across), 9, nil, at(30*unit+way, 30*unit+side), 8, -1, true},
				{"along Y", units(30, 30), at(across, speed), 9, nil, at(30*unit+side, 30*unit+way), 8, -1, true},
			})
		}
	}
}

// 16.2: walls at each of the four quarters, in all four directions, up to the last free place, and one raw place beyond it.
func TestMoveWalls(t *testing.T) {
	const low, high, step = side, 7*side - 1, 1000 // the first and the last free place, and a quarter's way
	b := parsed(t, example)
	for n := int64(1); n <= 4; n++ {
		wantRows(t, b, []row{
			{"right", at(high-n*step+1, 9*unit), at(4*step, 0), 9, nil, at(high+1, 9*unit), 9, -1, false},
			{"left", at(low+n*step-1, 9*unit), at(-4*step, 0), 9, nil, at(low-1, 9*unit), 9, -1, false},
			{"down", at(9*unit, high-n*step+1), at(0, 4*step), 9, nil, at(9*unit, high+1), 9, -1, false},
			{"up", at(9*unit, low+n*step-1), at(0, -4*step), 9, nil, at(9*unit, low-1), 9, -1, false},
		})
	}
	wantRows(t, b, []row{
		{"just up to the right", at(high-4*step, 9*unit), at(4*step, 0), 9, nil, at(high, 9*unit), 8, -1, true},
		{"just up to the left", at(low+4*step, 9*unit), at(-4*step, 0), 9, nil, at(low, 9*unit), 8, -1, true},
		{"just down to it", at(9*unit, high-4*step), at(0, 4*step), 9, nil, at(9*unit, high), 8, -1, true},
		{"just up to it", at(9*unit, low+4*step), at(0, -4*step), 9, nil, at(9*unit, low), 8, -1, true},
		{"into a corner", at(high-step, high-2*step), at(4*step, 4*step), 9, nil, at(high+step, high), 9, -1, false},
	})
	wantRows(t, parsed(t, pillar), []row{
		{"onto the pillar", units(22, 28), units(8, 0), 9, nil, units(24, 28), 9, -1, false},
		{"past it", units(22, 23), units(8, 0), 9, nil, units(30, 23), 8, -1, true},
		{"over it, by quarters longer than a cell", units(14, 28), units(36, 0), 9, nil, units(50, 28), 9, -1, false},
	})
}

// 16.2: a shot is first looked at behind its first quarter, in a wall or on a car.
func TestMoveBeginnings(t *testing.T) {
	wantRows(t, parsed(t, example), []row{
		{"out of a wall", at(side-1, 9*unit), at(4, 0), 9, nil, at(side+3, 9*unit), 8, -1, true},
		{"out of a wall, across", at(9*unit, 7*side), at(0, -1), 9, nil, at(9*unit, 7*side-4), 8, -1, true},
		{"in a wall, not out of it", at(side-2, 9*unit), at(4, 0), 9, nil, at(side-1, 9*unit), 9, -1, false},
		{"at rest in a wall", at(0, 0), at(0, 0), 9, nil, at(0, 0), 9, -1, false},
		{"at rest on free ground", units(30, 30), at(0, 0), 9, nil, units(30, 30), 8, -1, true},
		{"at rest on a car", units(30, 30), at(0, 0), 9, list(of(0, units(30, 30))), units(30, 30), 9, 0, false},
		{"away from a car", units(30, 30), at(4*reach+4, 0), 9, list(of(0, units(30, 30))), at(30*unit+4*reach+4, 30*unit), 8, -1, true},
		{"not far enough away", units(30, 30), at(4*reach, 0), 9, list(of(0, units(30, 30))), at(30*unit+reach, 30*unit), 9, 0, false},
	})
}

// 16.2: a car is hit at 98304 and no further off, on all sides, in each of the four quarters.
func TestMoveReach(t *testing.T) {
	b := parsed(t, example)
	const step = 2*reach + 2 // so long that no car is near two of the places
	for n := int64(1); n <= 4; n++ {
		from, speed, end := units(20, 30), at(4*step, 0), at(20*unit+4*step, 30*unit)
		there := at(20*unit+n*step, 30*unit)
		for _, x := range []struct {
			off api.Vec
			hit bool
		}{
			{at(0, 0), true}, {at(reach, 0), true}, {at(-reach, 0), true}, {at(0, reach), true}, {at(0, -reach), true},
			{at(0, reach+1), false}, {at(0, -reach-1), false}, {at(reach, 1), false}, {at(-reach, -1), false}, {at(1, reach), false}, {at(reach-1, 443), true}, {at(reach-1, 444), false}, {at(443, 1-reach), true}, {at(-444, reach-1), false},
			{at(-69512, 69511), false}, {at(69511, -69511), true}, {at(-69511, -69511), true}, {at(-69511, -69512), false},
		} {
			cars := list(of(0, at(there.X+x.off.X, there.Y+x.off.Y)))
			if x.hit {
				wantRows(t, b, []row{{"near", from, speed, 3, cars, there, 3, 0, false}})
			} else {
				wantRows(t, b, []row{{"not near", from, speed, 3, cars, end, 2, -1, true}})
			}
		}
	}
	wantRows(t, b, []row{
		{"one place ahead of reach", units(30, 30), at(-4, 0), 3, list(of(0, at(30*unit+reach, 30*unit))), at(30*unit-4, 30*unit), 2, -1, true},
		{"one place behind the last", units(30, 30), at(4, 0), 3, list(of(0, at(30*unit+reach+5, 30*unit))), at(30*unit+4, 30*unit), 2, -1, true},
		{"reached by the last", units(30, 30), at(4, 0), 3, list(of(0, at(30*unit+reach+4, 30*unit))), at(30*unit+4, 30*unit), 3, 0, false},
		{"reached by the first", units(30, 30), at(4, 0), 3, list(of(0, at(30*unit+reach+1, 30*unit))), at(30*unit+1, 30*unit), 3, 0, false},
	})
}

// 16.2: which car of several: the first of the list, at the first quarter at which any is near, none of the owner's, no wreck.
func TestMoveWhichCar(t *testing.T) {
	from, speed := units(20, 30), units(16, 0)
	first, second, last, end := units(24, 30), units(28, 30), units(36, 30), units(36, 30)
	beside := at(24*unit, 31*unit) // near the first place, not on it
	wantRows(t, parsed(t, example), []row{
		{"the first, not the nearest", from, speed, 48, list(of(0, beside), of(2, first)), first, 48, 0, false},
		{"the first, be it the nearest", from, speed, 48, list(of(2, first), of(0, beside)), first, 48, 0, false},
		{"the first, not the least player", from, speed, 48, list(of(9, first), of(0, first), of(3, first)), first, 48, 0, false},
		{"the earlier quarter, not the first of the list", from, speed, 48, list(of(0, second), of(2, last), of(3, first)), first, 48, 2, false},
		{"the second quarter", from, speed, 48, list(of(0, last), of(2, second), of(3, second)), second, 48, 1, false},
		{"the last quarter", from, speed, 48, list(of(0, units(40, 30)), of(2, last)), last, 48, 1, false},
		{"behind the last quarter", from, speed, 48, list(of(0, units(40, 30))), end, 47, -1, true},
		{"ahead of the first quarter", from, speed, 48, list(of(0, from)), end, 47, -1, true},
		{"two with one player", from, speed, 48, list(of(4, second), of(4, first), of(4, first)), first, 48, 1, false},
		{"the owner's first", from, speed, 48, list(of(1, first), of(2, first)), first, 48, 1, false},
		{"the owner's last", from, speed, 48, list(of(2, first), of(1, first)), first, 48, 0, false},
		{"the owner's between", from, speed, 48, list(of(2, units(9, 9)), of(1, first), of(1, first), of(3, first)), first, 48, 3, false},
		{"the owner's alone", from, speed, 48, list(of(1, first), of(1, second), of(1, last)), end, 47, -1, true},
		{"a wreck first", from, speed, 48, list(waits(of(0, first), 1), waits(of(0, first), math.MaxInt), of(2, second)), second, 48, 2, false},
		{"wrecks alone", from, speed, 48, list(waits(of(0, first), 1), waits(of(2, second), 40)), end, 47, -1, true},
		{"Wait below 0 is no wreck", from, speed, 48, list(waits(of(0, first), 1), waits(of(2, first), -1)), first, 48, 1, false},
		{"the least Wait", from, speed, 48, list(waits(of(2, first), math.MinInt)), first, 48, 0, false},
		{"Health 0 is no wreck", from, speed, 48, list(api.Car{Player: 2, At: first}), first, 48, 0, false},
		{"other players of any number", from, speed, 48, list(of(1, first), of(-1, first)), first, 48, 1, false},
		{"the least player", from, speed, 48, list(of(math.MinInt, first)), first, 48, 0, false},
	})
}

// 16.2: a place that is in a wall and near a car: the wall counts; a car that is near ahead of the wall is hit.
func TestMoveWallAndCar(t *testing.T) {
	c := of(0, at(side+10, 9*unit))
	wantRows(t, parsed(t, example), []row{
		{"both at once", at(side+4*reach, 9*unit), at(-16*reach-4, 0), 48, list(c), at(side-1, 9*unit), 48, -1, false},
		{"the car ahead of the wall", at(side+reach, 9*unit), at(-4*reach, 0), 48, list(c), at(side, 9*unit), 48, 0, false},
		{"the wall ahead of the car", at(side+1, 9*unit), at(-8, 0), 48, list(of(0, at(side-reach-3, 9*unit))), at(side-1, 9*unit), 48, -1, false},
	})
}

// 16.2: Left goes down by one only if the shot is there still; the least int becomes the greatest.
func TestMoveLeft(t *testing.T) {
	b := parsed(t, example)
	from, speed, end := units(20, 30), units(16, 0), units(36, 30)
	for left, then := range map[int]int{48: 47, 2: 1, 1: 0, 0: -1, -1: -2, 49: 48, 1 << 32: 1<<32 - 1, -1 << 32: -1<<32 - 1, math.MaxInt: math.MaxInt - 1, math.MinInt + 1: math.MinInt, math.MinInt: math.MaxInt} {
		wantRows(t, b, []row{
			{"it flies", from, speed, left, nil, end, then, -1, left > 1 || left == math.MinInt},
			{"a wall", from, units(-48, 0), left, nil, units(-4, 30), left, -1, false},
			{"a car", from, speed, left, list(of(0, units(28, 30))), units(28, 30), left, 0, false},
			{"a car in the last quarter", from, speed, left, list(of(0, end)), end, left, 0, false},
		})
	}
}

// 16.2: places and speeds at and beyond api.Max and at both ends of int64: sums are exact, then kept within; outside all is wall.
func TestMoveFar(t *testing.T) {
	const fast = 1 << 61 // the quarter of the least int64, turned; that of the greatest one is one less
	c := of(0, units(20, 30))
	wantRows(t, parsed(t, example), []row{
		{"at the bound", at(api.Max, 30*unit), at(4, 0), 9, nil, at(api.Max, 30*unit), 9, -1, false},
		{"just within", at(api.Max-1, 30*unit), at(4, 0), 9, nil, at(api.Max, 30*unit), 9, -1, false},
		{"away from the bound", at(api.Max, 30*unit), at(-4, 0), 9, nil, at(api.Max-1, 30*unit), 9, -1, false},
		{"beyond, at rest", at(api.Max+1, -api.Max-1), at(0, 0), 9, nil, at(api.Max, -api.Max), 9, -1, false},
		{"the ends, outwards", at(greatest, least), at(greatest, least), 9, nil, at(api.Max, -api.Max), 9, -1, false},
		{"the other ends, outwards", at(least, greatest), at(least, greatest), 9, nil, at(-api.Max, api.Max), 9, -1, false},
		{"the ends, at rest", at(least, greatest), at(0, 0), 9, nil, at(-api.Max, api.Max), 9, -1, false},
		{"the ends, inwards", at(least, greatest), at(greatest, least), 9, nil, at(-api.Max, api.Max), 9, -1, false},
		{"off the board", units(20, 30), at(greatest, 0), 9, list(of(0, units(30, 30))), at(api.Max, 30*unit), 9, -1, false},
		{"off the board, upwards", units(20, 30), at(0, least), 9, list(of(0, units(30, 30))), at(20*unit, -api.Max), 9, -1, false},
		{"onto the board, from afar", at(1-fast+20*unit, 30*unit), at(greatest, 0), 9, list(c), units(20, 30), 9, 0, false},
		{"onto the board and off it", at(1-fast+20*unit, 30*unit), at(greatest, 0), 9, nil, at(api.Max, 30*unit), 9, -1, false},
		{"onto the board, from the other side", at(20*unit, fast+30*unit), at(0, least), 9, list(c), units(20, 30), 9, 0, false},
		{"from beyond the bound", at(api.Max+5, 30*unit), at(4*(20*unit-api.Max-5), 0), 9, list(c), units(20, 30), 9, 0, false},
		{"from beyond the least bound", at(20*unit, -api.Max-5), at(0, 4*(30*unit+api.Max+5)), 9, list(c), units(20, 30), 9, 0, false},
		{"a car beyond the bound", at(api.Max, api.Max), at(0, 0), 9, list(of(0, at(api.Max, api.Max))), at(api.Max, api.Max), 9, -1, false},
		{"cars far off", units(20, 30), units(16, 0), 9, list(of(0, at(least, least)), of(2, at(greatest, greatest)), of(3, at(1<<32+24*unit, 30*unit)), of(4, at(24*unit, least+30*unit))), units(36, 30), 8, -1, true},
	})
}

// part gives one part of a place: about a cell's ends, within a board, at an edge, or of any size.
func (d *dice) part(cells int) int64 {
	switch d.below(8) {
	case 0:
		return d.about(int64(d.below(cells+1))*side, 3)
	case 1:
		return d.about(int64(d.below(cells+1))*side, 70000)
	case 2:
		return d.sized()
	case 3:
		return beyond[d.below(len(beyond))]
	default:
		return int64(d.below(cells * side))
	}
}

// speed gives one part of a speed: mostly one that a shot may have, else of any size.
func (d *dice) speed() int64 {
	switch d.below(10) {
	case 0:
		return d.sized()
	case 1:
		return d.about(0, 9)
	case 2:
		return []int64{least, least + 1, greatest, api.Max, -api.Max, 16 * unit, -16 * unit}[d.below(7)]
	case 3:
		return d.about(0, 64*unit)
	default:
		return d.about(0, 4*unit)
	}
}

// shot gives one with any fields, often about the first spawn.
func (d *dice) shot(b *board.Board) api.Shot {
	wide, high := b.Size()
	s := api.Shot{Id: d.number(), Player: d.below(4), At: at(d.part(wide), d.part(high)), Speed: at(d.speed(), d.speed()), Left: d.below(48)}
	if d.below(2) == 0 {
		spawn := b.Spawns()[0]
		s.At = at(d.about(spawn.X, 5*unit), d.about(spawn.Y, 5*unit))
	}
	if d.below(4) == 0 {
		s.Left = d.number()
	}
	if d.below(8) == 0 {
		s.Player = d.number()
	}
	return s
}

// carsAbout gives cars near a shot's way, at and about the ends of its reach, and elsewhere; some the owner's, some wrecks.
func (d *dice) carsAbout(b *board.Board, s api.Shot) []api.Car {
	wide, high := b.Size()
	var cars []api.Car
	for range d.below(6) {
		p := s.At
		for range d.below(6) {
			p = quarter(p, s.Speed)
		}
		switch d.below(5) {
		case 0:
			p = at(d.part(wide), d.part(high))
		case 1:
			p.X += d.about(0, 1) * d.about(reach, 1)
		case 2:
			p.Y += d.about(0, 1) * d.about(reach, 1)
		default:
			p = at(p.X+d.about(0, 2*reach), p.Y+d.about(0, 2*reach))
		}
		c := d.car()
		c.At, c.Wait, c.Player = p, 0, d.below(4)
		if d.below(4) == 0 {
			c.Wait = d.number()
		}
		if d.below(4) == 0 {
			c.Player = s.Player
		}
		cars = append(cars, c)
	}
	return cars
}

// 16.2: any shot among any cars.
func TestMoveAny(t *testing.T) {
	times := 20000
	if testing.Short() {
		times = 1000
	}
	d := dice(4101842887655102017)
	var walls, hits [5]int
	for _, b := range boards(t) {
		for range times {
			s := d.shot(b)
			_, hit, _, when := wantMove(t, b, d.carsAbout(b, s), s)
			if hit >= 0 {
				hits[when]++
			} else {
				walls[when]++
			}
		}
	}
	for when := 1; when <= 4; when++ {
		if min(walls[when], hits[when], walls[0]) < times/50 {
			t.Errorf("quarter %d: %d walls, %d cars; %d flew on: each must have come often", when, walls[when], hits[when], walls[0])
		}
	}
}

// 16.2: shots that fly on and on, tick after tick, until they are gone, among cars that wander.
func TestMoveTickAfterTick(t *testing.T) {
	times := 300
	if testing.Short() {
		times = 20
	}
	d := dice(521288629)
	walls, hits, ends, longest := 0, 0, 0, 0
	for _, b := range boards(t) {
		for range times {
			s := d.shot(b)
			s.At, s.Speed, s.Left = b.Spawns()[0], at(d.about(0, unit), d.about(0, unit)), 48
			cars := d.carsAbout(b, s)
			for tick := 1; ; tick++ {
				then, hit, on, when := wantMove(t, b, cars, s)
				longest = max(longest, tick)
				if !on {
					switch {
					case hit >= 0:
						hits++
					case when > 0:
						walls++
					default:
						ends++
					}
					break
				}
				s = then
				for i := range cars {
					cars[i].At = at(d.about(s.At.X, 50*reach), d.about(s.At.Y, 50*reach))
				}
			}
		}
	}
	if walls == 0 || hits == 0 || ends == 0 || longest != 48 {
		t.Errorf("%d walls, %d cars, %d ends, at most %d ticks: each must have come, and 48", walls, hits, ends, longest)
	}
}
