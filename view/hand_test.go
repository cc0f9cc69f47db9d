package view_test

import (
	"slices"
	"testing"

	"joust/api"
	"joust/view"
)

// P21.1 (Hard places): of two cars of one Player the first counts, also where it is a wreck; also the own one.
func TestTwoCarsOfOnePlayer(t *testing.T) {
	s := api.State{Cars: []api.Car{
		carAt(5, units(2, 0)),
		wreckAt(1, units(0, 0)),
		carAt(1, units(1, 0)),
		carAt(0, units(0, 0)),
		carAt(5, units(0, 0)),
		carAt(0, units(9, 0)),
		wreckAt(5, units(2, 0)),
	}}
	wantSeen(t, s, 3, 1024, 32, "c5")
	if v := asked(t, s, 0, 1024, 32); v.Seen[0].At != units(2, 0) {
		t.Errorf("seen at %v", v.Seen[0].At)
	}
	// The second one of 5 is near, and does not count.
	wantSeen(t, s, 3, 1, 32, "")
	wantSeen(t, s, 1, 1024, 32, "c0 c5")
	// The own one's second car is no other.
	wantSeen(t, s, 0, 1024, 32, "c0")
	wantSeen(t, s, 0, 2, 1, "c0")
}

// P21.1: the second car of the own player is not seen, whether the first is a wreck or not.
func TestOwnSecondCar(t *testing.T) {
	for _, wait := range []int{0, 1} {
		first := api.Car{Player: 2, At: units(3, 3), Wait: wait, Score: 1}
		s := api.State{Cars: []api.Car{first, {Player: 2, At: units(3, 3), Score: 2}, carAt(1, units(3, 3))}}
		wantSeen(t, s, 0, 9, 32, "c1")
		want := "c2"
		if wait > 0 {
			want = ""
		}
		wantSeen(t, s, 2, 9, 32, want)
	}
}

// P21.1: of two shots of one Id the first counts; cars and shots of one number are two.
func TestTwoShotsOfOneId(t *testing.T) {
	s := api.State{
		Cars:  []api.Car{carAt(6, units(0, 0)), carAt(2, units(1, 0))},
		Shots: []api.Shot{shotAt(6, units(1, 0)), shotAt(2, units(9, 0)), shotAt(2, units(1, 0)), shotAt(6, units(0, 0)), shotAt(6, units(7, 0))},
	}
	wantSeen(t, s, 0, 3, 32, "c2 s6")
	wantSeen(t, s, 0, 9, 32, "c2 s2 s6")
	wantSeen(t, s, 0, 0, 32, "")
	want := []api.Seen{{Kind: 1, Id: 2, At: units(1, 0)}, {Kind: 2, Id: 2, At: units(9, 0)}, {Kind: 2, Id: 6, At: units(1, 0)}}
	if v := asked(t, s, 6, 9, 32); !slices.Equal(v.Seen, want) {
		t.Errorf("%+v, want %+v", v.Seen, want)
	}
}

// P21.2: a state without a car has no view, whatever shots it has.
func TestAllOfNobody(t *testing.T) {
	for _, s := range []api.State{{}, {Tick: 3, Cars: []api.Car{}}, {Tick: 3, Shots: []api.Shot{shotAt(1, at(0, 0)), shotAt(2, at(0, 0))}, Next: 3}, {Cars: example().Cars[:0]}} {
		if views := view.All(s, 5, 32); len(views) != 0 {
			t.Errorf("All(%+v): %+v", s, views)
		}
	}
}

// wantAll asks All twice for the views of these players, each as Of has it.
func wantAll(t *testing.T, s api.State, radius, show int, players ...int) {
	t.Helper()
	for range 2 {
		views := view.All(s, radius, show)
		var got []int
		for _, v := range views {
			got = append(got, v.Own.Player)
		}
		if !slices.Equal(got, players) {
			t.Fatalf("All(%+v, %d, %d): of %v, want %v", s, radius, show, got, players)
		}
		for _, v := range views {
			if want := asked(t, s, v.Own.Player, radius, show); !same(v, want) {
				t.Fatalf("All(%+v, %d, %d): %+v, want %+v", s, radius, show, v, want)
			}
		}
	}
}

// P21.2: cars in any order, wrecks and two of one Player among them; each Player once, rising.
func TestAll(t *testing.T) {
	for _, radius := range []int{-1, 0, 1, 2, 5, 1024, 1 << 40} {
		for _, show := range []int{-1, 0, 1, 2, 3, 32, 33} {
			wantAll(t, example(), radius, show, 0, 1, 2, 3)
			turned := example()
			slices.Reverse(turned.Cars)
			slices.Reverse(turned.Shots)
			wantAll(t, turned, radius, show, 0, 1, 2, 3)
			twice := turned
			twice.Cars = append(twice.Cars, carAt(2, units(1, 0)), carAt(-7, units(0, 1)), carAt(0, units(2, 0)), carAt(2, units(0, 0)))
			wantAll(t, twice, radius, show, -7, 0, 1, 2, 3)
			wantAll(t, api.State{Tick: 2, Cars: []api.Car{wreckAt(5, units(1, 1))}}, radius, show, 5)
		}
	}
	// The order of the list is seen in no view.
	want := view.All(example(), 5, 2)
	s := example()
	for range 8 {
		s.Cars = append(s.Cars[3:], s.Cars[:3]...)
		slices.Reverse(s.Shots)
		if views := view.All(s, 5, 2); !slices.EqualFunc(views, want, same) {
			t.Fatalf("%+v, want %+v", views, want)
		}
		s.Cars[0], s.Cars[1] = s.Cars[1], s.Cars[0]
	}
}

// P21.2: more players than a server has.
func TestAllOfMany(t *testing.T) {
	var s api.State
	var players []int
	for i := range 150 {
		s.Cars = append(s.Cars, carAt((i*7)%150-50, units(int64(i%17), int64(i/17))))
		s.Shots = append(s.Shots, shotAt((i*11)%150, units(int64(i%19), int64(i/19))))
		players = append(players, i-50)
	}
	wantAll(t, s, 0, 32, players...)
	wantAll(t, s, 1, 3, players...)
	wantAll(t, s, 3, 32, players...)
}
