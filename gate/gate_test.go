package gate_test

import (
	"math"
	"slices"
	"testing"

	"joust/api"
	"joust/gate"
)

// players are some of any ints: about 0, about the players that a server has, those alike in few bits, both ends.
var players = []int{math.MinInt, math.MinInt + 1, -1 << 32, -1<<32 + 3, math.MinInt32 - 1, math.MinInt32, -256, -128, -32, -2, -1, 0, 1, 2, 3, 31, 32, 63, 64, 127, 128, 255, 256, 259, math.MaxInt32, math.MaxInt32 + 1, 1 << 32, 1<<32 + 3, math.MaxInt - 1, math.MaxInt}

func wantOffer(t *testing.T, g *gate.Gate, player int, c api.Command, want api.Errno) {
	t.Helper()
	if e := g.Offer(player, c); e != want {
		t.Fatalf("Offer(%d, %+v): %v, want %v", player, c, e, want)
	}
}

// wantWaits asks Waits twice: the first one changes nothing.
func wantWaits(t *testing.T, g *gate.Gate, player int, want bool) {
	t.Helper()
	for range 2 {
		if g.Waits(player) != want {
			t.Fatalf("Waits(%d): %v", player, !want)
		}
	}
}

func wantDrop(t *testing.T, g *gate.Gate, player int, want bool) {
	t.Helper()
	if g.Drop(player) != want {
		t.Fatalf("Drop(%d): %v", player, !want)
	}
}

// wantTake holds what Take answers against a list, and asks that nothing is left of it.
func wantTake(t *testing.T, g *gate.Gate, want ...api.Intent) {
	t.Helper()
	if got := g.Take(); !slices.Equal(got, want) {
		t.Fatalf("Take: %+v, want %+v", got, want)
	}
	for _, i := range want {
		wantWaits(t, g, i.Player, false)
	}
	if again := g.Take(); len(again) != 0 {
		t.Fatalf("Take again: %+v", again)
	}
}

// P18.1, P18.2: api's numbers are the chapter's.
func TestNumbers(t *testing.T) {
	if api.OK != 0 || api.ErrExcess != 180 || api.TopPower != 100 || api.TopTurn != 8 {
		t.Fatal(api.OK, api.ErrExcess, api.TopPower, api.TopTurn)
	}
}

// P18.1 to P18.5: the chapter's examples, in their order.
func TestExamples(t *testing.T) {
	if i := gate.Legal(3, api.Command{Throttle: 127, Turn: -128, Fire: true}); i != (api.Intent{Player: 3, Throttle: 100, Turn: -8, Fire: true}) {
		t.Fatalf("Legal: %+v", i)
	}
	g := gate.New()
	wantOffer(t, g, 3, api.Command{Throttle: 5}, api.OK)
	wantOffer(t, g, 3, api.Command{Throttle: 6}, api.ErrExcess)
	wantOffer(t, g, -1, api.Command{Turn: 2}, api.OK)
	wantWaits(t, g, 3, true)
	wantWaits(t, g, 2, false)
	wantDrop(t, g, 2, false)
	wantTake(t, g, api.Intent{Player: -1, Turn: 2}, api.Intent{Player: 3, Throttle: 5})
	wantTake(t, g)
	wantWaits(t, g, 3, false)
	wantOffer(t, g, 3, api.Command{Throttle: 7}, api.OK)
	wantDrop(t, g, 3, true)
	wantDrop(t, g, 3, false)
	wantTake(t, g)
}

// P18.1: each number of a command with what becomes of it, both written by hand: below, at and above the bounds, those whose last bytes alone are within them, both ends of int.
func TestLegal(t *testing.T) {
	type made struct{ of, want int }
	throttles := []made{
		{math.MinInt, -100}, {math.MinInt + 1, -100}, {math.MinInt + 50, -100}, {-1 << 32, -100}, {-1<<32 + 7, -100}, {math.MinInt32, -100},
		{-65536, -100}, {-256, -100}, {-129, -100}, {-128, -100}, {-127, -100}, {-102, -100}, {-101, -100}, {-100, -100}, {-99, -99}, {-98, -98},
		{-9, -9}, {-8, -8}, {-7, -7}, {-1, -1}, {0, 0}, {1, 1}, {7, 7}, {8, 8}, {9, 9},
		{98, 98}, {99, 99}, {100, 100}, {101, 100}, {102, 100}, {127, 100}, {128, 100}, {256, 100}, {260, 100}, {65536, 100},
		{math.MaxInt32, 100}, {1 << 32, 100}, {1<<32 - 7, 100}, {math.MaxInt - 50, 100}, {math.MaxInt - 1, 100}, {math.MaxInt, 100},
	}
	turns := []made{
		{math.MinInt, -8}, {math.MinInt + 1, -8}, {math.MinInt + 5, -8}, {-1 << 32, -8}, {-1<<32 + 3, -8}, {math.MinInt32, -8},
		{-65536, -8}, {-256, -8}, {-128, -8}, {-101, -8}, {-100, -8}, {-99, -8}, {-10, -8}, {-9, -8}, {-8, -8}, {-7, -7}, {-6, -6}, {-1, -1},
		{0, 0}, {1, 1}, {6, 6}, {7, 7}, {8, 8}, {9, 8}, {10, 8}, {99, 8}, {100, 8}, {101, 8}, {127, 8}, {128, 8}, {256, 8}, {258, 8}, {65536, 8},
		{math.MaxInt32, 8}, {1 << 32, 8}, {1<<32 - 3, 8}, {math.MaxInt - 5, 8}, {math.MaxInt - 1, 8}, {math.MaxInt, 8},
	}
	for _, throttle := range throttles {
		for _, turn := range turns {
			for n, player := range players {
				c := api.Command{Throttle: throttle.of, Turn: turn.of, Fire: n%2 == 0, Boost: n%4 < 2}
				want := api.Intent{Player: player, Throttle: throttle.want, Turn: turn.want, Fire: n%2 == 0, Boost: n%4 < 2}
				if i := gate.Legal(player, c); i != want {
					t.Fatalf("Legal(%d, %+v): %+v, want %+v", player, c, i, want)
				}
			}
		}
	}
}

// P18.1: all throttles and turns that a datagram can bring, Fire and Boost each way: what is legal stays, what is beyond becomes the bound.
func TestLegalOfAllCommands(t *testing.T) {
	for throttle := -128; throttle <= 127; throttle++ {
		for turn := -128; turn <= 127; turn++ {
			want := api.Intent{Player: 7, Throttle: throttle, Turn: turn}
			if throttle < -100 {
				want.Throttle = -100
			}
			if throttle > 100 {
				want.Throttle = 100
			}
			if turn < -8 {
				want.Turn = -8
			}
			if turn > 8 {
				want.Turn = 8
			}
			for n := range 4 {
				want.Fire, want.Boost = n&1 != 0, n&2 != 0
				c := api.Command{Throttle: throttle, Turn: turn, Fire: want.Fire, Boost: want.Boost}
				if i := gate.Legal(7, c); i != want {
					t.Fatalf("Legal(7, %+v): %+v, want %+v", c, i, want)
				}
			}
		}
	}
}

// P18.1: an intent that is legal stays what it is, made legal once more.
func TestLegalTwice(t *testing.T) {
	for _, c := range []api.Command{{}, {Throttle: 500, Turn: -500, Fire: true}, {Throttle: -500, Turn: 500, Boost: true}, {Throttle: 3, Turn: -3, Fire: true, Boost: true}} {
		i := gate.Legal(5, c)
		if again := gate.Legal(5, api.Command{Throttle: i.Throttle, Turn: i.Turn, Fire: i.Fire, Boost: i.Boost}); again != i {
			t.Errorf("Legal of what is legal: %+v, then %+v", i, again)
		}
	}
}

// P18.2: of each player one waits, the first, made legal; whatever is offered behind it is refused and changes no part of it.
func TestOfferRefused(t *testing.T) {
	others := []api.Command{{}, {Throttle: 6}, {Turn: 1}, {Fire: true}, {Boost: true}, {Throttle: 5, Turn: -8, Boost: true}, {Throttle: 1000, Turn: 1000, Fire: true, Boost: true}, {Throttle: math.MinInt, Turn: math.MinInt}}
	for _, first := range []api.Command{{}, {Throttle: 5, Turn: -8}, {Fire: true}, {Boost: true}, {Throttle: 101, Turn: -9, Fire: true, Boost: true}} {
		for _, player := range players {
			g := gate.New()
			wantOffer(t, g, player, first, api.OK)
			for _, other := range append(others, first) {
				wantOffer(t, g, player, other, api.ErrExcess)
				wantWaits(t, g, player, true)
			}
			wantTake(t, g, gate.Legal(player, first))
			wantOffer(t, g, player, others[1], api.OK)
			wantTake(t, g, gate.Legal(player, others[1]))
		}
	}
}

// P18.2: an intent of nothing at all waits like any other.
func TestOfferOfNothing(t *testing.T) {
	g := gate.New()
	wantOffer(t, g, 0, api.Command{}, api.OK)
	wantWaits(t, g, 0, true)
	wantOffer(t, g, 0, api.Command{Throttle: 1}, api.ErrExcess)
	wantTake(t, g, api.Intent{})
	wantOffer(t, g, 0, api.Command{}, api.OK)
	wantDrop(t, g, 0, true)
	wantTake(t, g)
}

// P18.2, P18.4: Offer, Drop, Offer: the second one waits, with nothing of the first; refused ones between them do not come back.
func TestOfferDropOffer(t *testing.T) {
	for _, player := range players {
		g := gate.New()
		for n := range 5 {
			wantOffer(t, g, player, api.Command{Throttle: n, Turn: 7, Fire: true, Boost: true}, api.OK)
			wantOffer(t, g, player, api.Command{Throttle: 90, Turn: n}, api.ErrExcess)
			wantDrop(t, g, player, true)
			wantWaits(t, g, player, false)
			wantDrop(t, g, player, false)
		}
		wantOffer(t, g, player, api.Command{Throttle: 2}, api.OK)
		wantWaits(t, g, player, true)
		wantTake(t, g, api.Intent{Player: player, Throttle: 2})
		wantDrop(t, g, player, false)
	}
}

// P18.3: Waits of a player that was never offered, at all times, and asking changes nothing.
func TestWaits(t *testing.T) {
	g := gate.New()
	for n, player := range players {
		for k, other := range players {
			wantWaits(t, g, other, k < n)
		}
		wantOffer(t, g, player, api.Command{Turn: n - 8}, api.OK)
	}
	if l := g.Take(); len(l) != len(players) {
		t.Fatalf("Take: %+v", l)
	}
	for _, player := range players {
		wantWaits(t, g, player, false)
	}
}

// P18.4: Drop of each one, from both ends of the list: just this one goes.
func TestDrop(t *testing.T) {
	for _, player := range players {
		g := gate.New()
		wantDrop(t, g, player, false)
		var want []api.Intent
		for n, other := range players {
			wantOffer(t, g, other, api.Command{Throttle: n}, api.OK)
			if other != player {
				want = append(want, api.Intent{Player: other, Throttle: n})
			}
		}
		wantDrop(t, g, player, true)
		wantDrop(t, g, player, false)
		for _, other := range players {
			wantWaits(t, g, other, other != player)
		}
		wantTake(t, g, want...)
	}
}

// P18.5: Take of none, again and again: of a new gate, behind a Take, behind a Drop, behind questions alone.
func TestTakeOfNone(t *testing.T) {
	g := gate.New()
	for range 5 {
		wantTake(t, g)
		wantWaits(t, g, 0, false)
		wantTake(t, g)
		wantDrop(t, g, 0, false)
		wantTake(t, g)
		wantOffer(t, g, 0, api.Command{}, api.OK)
		wantDrop(t, g, 0, true)
		wantTake(t, g)
		wantOffer(t, g, 0, api.Command{}, api.OK)
		wantTake(t, g, api.Intent{})
	}
}

// P18.5: all that wait are told by Player, rising, whatever the order of the offers: both ends of int are further apart than an int can tell.
func TestTakeRises(t *testing.T) {
	var want []api.Intent
	for _, player := range players {
		want = append(want, api.Intent{Player: player, Throttle: player & 63, Fire: true})
	}
	for first := range players {
		for _, step := range []int{1, 7, len(players) - 1} {
			g := gate.New()
			for n := range players {
				i := want[(first+n*step)%len(players)]
				wantOffer(t, g, i.Player, api.Command{Throttle: i.Throttle, Fire: true}, api.OK)
			}
			wantTake(t, g, want...)
		}
	}
}

// P18.5: a gate of many players, used again and again for fewer.
func TestTakeOfMany(t *testing.T) {
	g := gate.New()
	for _, n := range []int{5000, 1, 4999, 0, 32, 5000, 2} {
		var want []api.Intent
		for i := range n {
			player := (i*7919)%n - n/2
			wantOffer(t, g, player, api.Command{Throttle: player % 100, Boost: true}, api.OK)
			want = append(want, api.Intent{Player: i - n/2, Throttle: (i - n/2) % 100, Boost: true})
		}
		wantTake(t, g, want...)
	}
}

// P18.6: two gates in turns: what is done to one, the other does not tell.
func TestGatesApart(t *testing.T) {
	g, h := gate.New(), gate.New()
	wantOffer(t, g, 1, api.Command{Throttle: 1}, api.OK)
	wantWaits(t, h, 1, false)
	wantDrop(t, h, 1, false)
	wantTake(t, h)
	wantOffer(t, h, 1, api.Command{Throttle: 2}, api.OK)
	wantOffer(t, g, 1, api.Command{Throttle: 3}, api.ErrExcess)
	wantOffer(t, h, 2, api.Command{Throttle: 4}, api.OK)
	wantWaits(t, g, 2, false)
	wantTake(t, g, api.Intent{Player: 1, Throttle: 1})
	wantWaits(t, h, 1, true)
	wantOffer(t, h, 1, api.Command{Throttle: 5}, api.ErrExcess)
	wantOffer(t, g, 2, api.Command{Throttle: 6}, api.OK)
	wantDrop(t, h, 2, true)
	wantWaits(t, g, 2, true)
	wantTake(t, h, api.Intent{Player: 1, Throttle: 2})
	wantTake(t, g, api.Intent{Player: 2, Throttle: 6})
}
