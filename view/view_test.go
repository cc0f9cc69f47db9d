package view_test

import (
	"math"
	"slices"
	"strconv"
	"strings"
	"testing"

	"joust/api"
	"joust/view"
)

const (
	unit     = api.One
	least    = math.MinInt64
	greatest = math.MaxInt64
)

func at(x, y int64) api.Vec { return api.Vec{X: x, Y: y} }

func units(x, y int64) api.Vec { return at(x*unit, y*unit) }

func carAt(player int, place api.Vec) api.Car { return api.Car{Player: player, At: place} }

func wreckAt(player int, place api.Vec) api.Car { return api.Car{Player: player, At: place, Wait: 1} }

func shotAt(id int, place api.Vec) api.Shot { return api.Shot{Id: id, At: place} }

// example is the chapter's state.
func example() api.State {
	return api.State{
		Tick:  77,
		Cars:  []api.Car{carAt(0, units(0, 0)), carAt(1, units(1, 0)), wreckAt(2, units(0, 0)), carAt(3, units(3, 0))},
		Shots: []api.Shot{{Id: 4, Player: 3, At: units(2, 0)}, {Id: 7, Player: 0, At: units(1, 0)}},
		Next:  8,
	}
}

// list tells what is seen, as "c1" for a car and "s4" for a shot.
func list(seen []api.Seen) string {
	var words []string
	for _, x := range seen {
		kind := "?"
		switch x.Kind {
		case 1:
			kind = "c"
		case 2:
			kind = "s"
		}
		words = append(words, kind+strconv.Itoa(x.Id))
	}
	return strings.Join(words, " ")
}

// same is Equal by other means.
func same(a, b api.View) bool {
	if a.Tick != b.Tick || a.Own != b.Own || len(a.Seen) != len(b.Seen) {
		return false
	}
	for i := range a.Seen {
		if a.Seen[i] != b.Seen[i] {
			return false
		}
	}
	return true
}

func copyOf(v api.View) api.View {
	v.Seen = slices.Clone(v.Seen)
	return v
}

// asked asks Of twice, of a player that is there: the first one changes nothing.
func asked(t *testing.T, s api.State, player, radius, show int) api.View {
	t.Helper()
	v, e := view.Of(s, player, radius, show)
	if e != api.OK {
		t.Fatalf("Of(%+v, %d, %d, %d): %v", s, player, radius, show, e)
	}
	if w, e := view.Of(s, player, radius, show); e != api.OK || !same(v, w) {
		t.Fatalf("Of(%+v, %d, %d, %d): %+v, then %+v, %v", s, player, radius, show, v, w, e)
	}
	return v
}

// wantSeen asks for a view with the state's tick, this car of the state as the own one, and these things in this order.
func wantSeen(t *testing.T, s api.State, car, radius, show int, want string) {
	t.Helper()
	own := s.Cars[car]
	v := asked(t, s, own.Player, radius, show)
	if v.Tick != s.Tick || v.Own != own || list(v.Seen) != want {
		t.Errorf("Of(player %d, %d, %d): tick %d, %+v, %s; want tick %d, %+v, %s", own.Player, radius, show, v.Tick, v.Own, list(v.Seen), s.Tick, own, want)
	}
}

func wantNoView(t *testing.T, s api.State, player, radius, show int) {
	t.Helper()
	if v, e := view.Of(s, player, radius, show); e != api.ErrView || !same(v, api.View{}) {
		t.Errorf("Of(player %d, %d, %d): %+v, %v", player, radius, show, v, e)
	}
}

// The chapter's examples, in their order.
func TestExamples(t *testing.T) {
	s := example()
	wantNoView(t, s, 9, 5, 5)
	wantSeen(t, s, 0, 5, 32, "c1 c3 s4 s7")
	wantSeen(t, s, 0, 2, 32, "c1 s4 s7")
	wantSeen(t, s, 0, 0, 32, "")
	wantSeen(t, s, 0, 5, 2, "c1 s7")
	wantSeen(t, s, 0, 5, 1, "c1")
	wantSeen(t, s, 0, 5, 0, "")
	wantSeen(t, s, 0, 5, -3, "")
	wantSeen(t, s, 2, 1, 32, "c0 c1 s7")
	views := view.All(s, 5, 32)
	if len(views) != 4 {
		t.Fatalf("All: %d views", len(views))
	}
	for i, v := range views {
		if v.Own != s.Cars[i] {
			t.Errorf("All: view %d is of %d", i, v.Own.Player)
		}
	}
}

// P21.1: players that the state has not, whatever radius and show are: ErrView and no view.
func TestOfNobody(t *testing.T) {
	states := []api.State{
		{},
		{Tick: 5, Cars: []api.Car{}, Shots: []api.Shot{}, Next: 3},
		{Tick: 5, Shots: []api.Shot{{Id: 9, Player: 9}, {Id: math.MaxInt, Player: math.MaxInt}}, Next: 9},
		example(),
		{Cars: []api.Car{carAt(31, at(0, 0)), carAt(8, at(0, 0)), carAt(10, at(0, 0)), carAt(-2, at(0, 0))}},
	}
	for _, s := range states {
		for _, player := range []int{9, -1, 4, 32, 256 + 1, 1<<32 + 1, 1 << 40, math.MinInt, math.MaxInt} {
			for _, n := range []int{math.MinInt, -1, 0, 1, 5, 32, 1024, math.MaxInt} {
				wantNoView(t, s, player, n, 32)
				wantNoView(t, s, player, 5, n)
			}
		}
	}
	// A car behind the list's end is none of the state's.
	cars := example().Cars
	wantNoView(t, api.State{Cars: cars[:3]}, 3, 5, 5)
}

// P21.1: players of any number, wherever their car stands in the list.
func TestOfAnybody(t *testing.T) {
	players := []int{7, math.MaxInt, 0, -1, 31, math.MinInt, 1 << 40, 255, 256, -300}
	var s api.State
	for i, p := range players {
		s.Cars = append(s.Cars, api.Car{Player: p, At: units(int64(i), 0), Score: i})
	}
	wantSeen(t, s, 0, 1, 32, "c"+strconv.Itoa(math.MaxInt))
	wantSeen(t, s, 1, 1, 32, "c0 c7")
	wantSeen(t, s, 2, 1, 32, "c-1 c"+strconv.Itoa(math.MaxInt))
	wantSeen(t, s, 5, 1, 32, "c31 c"+strconv.Itoa(1<<40))
	wantSeen(t, s, 9, 1, 32, "c256")
	wantSeen(t, s, 4, 9, 32, "c"+strconv.Itoa(math.MinInt)+" c-300 c-1 c0 c7 c255 c256 c"+strconv.Itoa(1<<40)+" c"+strconv.Itoa(math.MaxInt))
	wantNoView(t, s, 1, 9, 32)
}

// P21.1: the own car is told whole, each number as it is, however it looks; the tick is the state's.
func TestOwnIsWhole(t *testing.T) {
	full := api.Car{Player: 3, Name: "ann-\u03b1", At: at(1, -2), Speed: at(-3, 4), Heading: 5, Health: 6, Energy: 7, Ammo: 8, Cool: 9, Spawns: 11, Score: 12}
	wreck := full
	wreck.Wait = 10
	strange := api.Car{Player: 3, Name: "\xff\x00", At: at(least, greatest), Speed: at(greatest, least), Heading: -1 << 40, Health: math.MinInt, Energy: math.MaxInt, Ammo: -1, Cool: 1 << 50, Wait: math.MinInt, Spawns: math.MinInt, Score: math.MaxInt}
	for _, own := range []api.Car{full, wreck, strange, {Player: 3}} {
		for _, tick := range []uint64{0, 1, 1 << 40, math.MaxUint64} {
			s := api.State{Tick: tick, Cars: []api.Car{carAt(1, at(9, 9)), own, carAt(4, own.At)}, Shots: []api.Shot{{Id: 1, Player: 3, At: own.At, Speed: at(7, 7), Left: 3}}}
			wantSeen(t, s, 1, 0, 32, "c4 s1")
			wantSeen(t, s, 1, 0, 0, "")
		}
	}
}

// P21.1: of a car its number, place and heading are told, as they are; of a shot number and place, its heading is 0.
func TestWhatIsTold(t *testing.T) {
	other := api.Car{Player: 5, Name: "bob", At: at(3, -4), Speed: at(5, 6), Heading: 200, Health: 7, Energy: 8, Ammo: 9, Cool: 10, Spawns: 11, Score: 12}
	far := api.Car{Player: -6, At: at(-5, 0), Heading: math.MinInt, Wait: -1}
	x := api.Shot{Id: 40, Player: 5, At: at(-1, 2), Speed: at(3, 4), Left: 5}
	y := api.Shot{Id: math.MinInt, Player: 0, At: at(0, 4), Speed: at(-3, 4), Left: -5}
	s := api.State{Tick: 6, Cars: []api.Car{carAt(0, at(0, 0)), other, far}, Shots: []api.Shot{x, y}, Next: 41}
	want := []api.Seen{
		{Kind: 1, Id: -6, At: at(-5, 0), Heading: math.MinInt},
		{Kind: 1, Id: 5, At: at(3, -4), Heading: 200},
		{Kind: 2, Id: math.MinInt, At: at(0, 4)},
		{Kind: 2, Id: 40, At: at(-1, 2)},
	}
	if v := asked(t, s, 0, 1, 32); !slices.Equal(v.Seen, want) {
		t.Errorf("%+v, want %+v", v.Seen, want)
	}
}

// P21.1 (Hard places): a wreck sees, and is not seen; it is one while Wait is above 0, and then alone.
func TestWrecks(t *testing.T) {
	for _, wait := range []int{1, 2, 40, math.MaxInt} {
		s := api.State{Cars: []api.Car{carAt(0, at(0, 0)), {Player: 1, At: at(0, 0), Wait: wait}, {Player: 2, At: at(0, 0), Wait: wait}}, Shots: []api.Shot{shotAt(3, at(0, 0))}}
		wantSeen(t, s, 0, 5, 32, "s3")
		wantSeen(t, s, 1, 5, 32, "c0 s3")
		wantSeen(t, s, 2, 5, 32, "c0 s3")
		wantSeen(t, s, 1, 5, 1, "c0")
	}
	for _, wait := range []int{0, -1, -40, math.MinInt} {
		s := api.State{Cars: []api.Car{carAt(0, at(0, 0)), {Player: 1, At: at(0, 0), Wait: wait}}}
		wantSeen(t, s, 0, 5, 32, "c1")
		wantSeen(t, s, 1, 5, 32, "c0")
	}
	// Health does not matter.
	s := api.State{Cars: []api.Car{carAt(0, at(0, 0)), {Player: 1, Health: -5}, {Player: 2, Health: 100, Wait: 1}}}
	wantSeen(t, s, 0, 5, 32, "c1")
}

// P21.1: the own car is never among what is seen, nor takes it another one's room; own shots are.
func TestOwnCarIsNotSeen(t *testing.T) {
	s := api.State{
		Cars:  []api.Car{carAt(0, units(1, 0)), carAt(4, units(0, 0)), carAt(9, units(0, 1))},
		Shots: []api.Shot{{Id: 4, Player: 4, At: units(0, 0)}, {Id: 5, Player: 9, At: units(0, 0)}},
	}
	wantSeen(t, s, 1, 1, 32, "c0 c9 s4 s5")
	wantSeen(t, s, 1, 0, 32, "s4 s5")
	wantSeen(t, s, 1, 1, 1, "s4")
	wantSeen(t, s, 1, 1, 2, "s4 s5")
	wantSeen(t, s, 1, 1, 3, "c0 s4 s5")
	wantSeen(t, s, 1, 1, 4, "c0 c9 s4 s5")
	// Others at just its place, of lesser and of greater numbers.
	for i := range s.Cars {
		s.Cars[i].At = units(0, 0)
	}
	for i, want := range []string{"", "c0", "c0 c9", "c0 c9 s4", "c0 c9 s4 s5", "c0 c9 s4 s5"} {
		wantSeen(t, s, 1, 0, i, want)
	}
}
