package book_test

import (
	"math"
	"slices"
	"strings"
	"testing"

	"joust/api"
	"joust/board"
	"joust/book"
	"joust/rule"
)

// api's numbers are the chapter's.
func TestNumbers(t *testing.T) {
	if api.ErrLedger != 190 || api.ErrShort != 50 || api.ErrRange != 51 || api.LbJoin != 1 || api.LbLeave != 2 || api.LbTick != 3 || api.LbCommand != 4 || api.MaxSessions != 32 {
		t.Fatal("another number")
	}
}

// Example 1.
func TestExampleLabels(t *testing.T) {
	ann := joinOf(1, 0, "ann")
	wantLabels(t, counted(ann, command(ann, 1), tick()), joined(0, "ann"), ticked(full(0)))
	wantLabels(t, nil)
	wantLabels(t, []api.Entry{})
}

// Example 2.
func TestExampleCommands(t *testing.T) {
	ann := joinOf(1, 0, "ann")
	wantLabels(t, counted(ann, command(ann, 1), idle(ann), tick()), joined(0, "ann"), left(0), ticked())
	wantLast(t, counted(ann, command(ann, 1), command(ann, 2)))
	wantLabels(t, counted(ann, command(ann, 1), tick(), command(ann, 2), tick()), joined(0, "ann"), ticked(full(0)), ticked(full(0)))
}

// Example 3.
func TestExampleRefused(t *testing.T) {
	ann := joinOf(1, 0, "ann")
	wantLast(t, counted(joinOf(2, 0, "ann"), joinOf(1, 1, "bob")))
	wantLast(t, counted(ann, joinOf(2, 0, "bob")))
	wantLast(t, counted(ann, joinOf(2, 1, "ANN")))
	wantLast(t, []api.Entry{{Kind: api.LbTick, Tick: 1}})
	wantLast(t, counted(command(ann, 1)))
}

// A hard place: a command goes with its session; whoever has the player behind it has none of it, and may send one.
func TestCommandGoesWithItsSession(t *testing.T) {
	ann, again, bob := joinOf(1, 0, "ann"), joinOf(2, 0, "ann"), joinOf(2, 0, "bob")
	for _, leave := range []api.Entry{idle(ann), bye(ann, 9)} {
		for _, next := range []api.Entry{again, bob} {
			wantLabels(t, counted(ann, command(ann, 1), leave, next, tick()), joined(0, "ann"), left(0), joined(0, next.Name), ticked())
			wantLabels(t, counted(ann, command(ann, 1), leave, next, tick(), tick()), joined(0, "ann"), left(0), joined(0, next.Name), ticked(), ticked())
			other := of(next, api.LbCommand, 1, commandOf(2, 1, 5, 6, 1))
			wantLabels(t, counted(ann, command(ann, 1), leave, next, other, tick()), joined(0, "ann"), left(0), joined(0, next.Name), ticked(api.Intent{Throttle: 5, Turn: 6, Fire: true}))
			wantLast(t, counted(ann, command(ann, 1), leave, next, other, command(next, 2)))
			wantLast(t, counted(ann, command(ann, 1), leave, next, command(ann, 2)))
		}
	}
}

// A hard place: an account joins again behind its leave, ahead of a tick and behind one, with another session and another spelling.
func TestJoinsAgain(t *testing.T) {
	ann := joinOf(4, 0, "ann")
	wantLabels(t, counted(ann, bye(ann, 1), joinOf(5, 0, "ann")), joined(0, "ann"), left(0), joined(0, "ann"))
	wantLabels(t, counted(ann, tick(), idle(ann), tick(), joinOf(5, 3, "Ann")), joined(0, "ann"), ticked(), left(0), ticked(), joined(3, "Ann"))
	wantLast(t, counted(ann, bye(ann, 1), ann))
	wantLast(t, counted(ann, bye(ann, 1), joinOf(3, 0, "ann")))
	wantLast(t, counted(ann, bye(ann, 1), joinOf(5, 0, "ANN"), joinOf(6, 1, "ann")))
	bob := joinOf(5, 1, "bob")
	wantLast(t, counted(ann, bob, idle(bob), joinOf(6, 1, "aNN")))
	wantLabels(t, counted(ann, bob, idle(ann), joinOf(6, 0, "aNN")), joined(0, "ann"), joined(1, "bob"), left(0), joined(0, "aNN"))
}

// A hard place: without a tick there is no tick label, whatever commands there are.
func TestNoTick(t *testing.T) {
	ann, bob := joinOf(1, 0, "ann"), joinOf(2, 1, "bob")
	wantLabels(t, counted(ann, bob, command(bob, 1), command(ann, 1)), joined(0, "ann"), joined(1, "bob"))
	wantLabels(t, counted(ann, command(ann, 1), idle(ann)), joined(0, "ann"), left(0))
	wantLabels(t, counted(tick(), ann, command(ann, 1)), ticked(), joined(0, "ann"))
}

// A hard place: of a join's Data the form and the name are looked at, not the nonce, the epoch, the cookie, the tag.
func TestConnectsBytes(t *testing.T) {
	for i := 4; i < len(connectOf("ann")); i++ {
		data := []byte(connectOf("ann"))
		data[i] ^= 0x15
		ann := joinOf(1, 0, "ann")
		ann.Data = string(data)
		if i >= 60 && i < 64 { // the name's length, the name
			wantLast(t, counted(ann))
		} else {
			wantLabels(t, counted(ann), joined(0, "ann"))
		}
	}
}

// Nor is a command's or a bye's tag looked at, nor a source, nor whether seqs rise.
func TestNotLookedAt(t *testing.T) {
	ann := joinOf(1, 0, "ann")
	for _, from := range []string{"", "\x00", "\xff\xfe any", strings.Repeat("s", 70000)} {
		ann.From = from
		for i := len(byeOf(1, 1)) - 32; i < len(byeOf(1, 1)); i++ {
			data := []byte(byeOf(1, 1))
			data[i] ^= 0x80
			wantLabels(t, counted(ann, of(ann, api.LbLeave, 1, string(data))), joined(0, "ann"), left(0))
		}
		for i := len(commandOf(1, 1, 0, 0, 0)) - 32; i < len(commandOf(1, 1, 0, 0, 0)); i++ {
			data := []byte(commandOf(1, 1, 0, 0, 0))
			data[i] ^= 0x80
			wantLabels(t, counted(ann, of(ann, api.LbCommand, 1, string(data)), tick()), joined(0, "ann"), ticked(api.Intent{}))
		}
		l := []api.Entry{ann}
		want := []api.Label{joined(0, "ann")}
		for _, seq := range []uint64{7, 7, 0, 1 << 32, 1, math.MaxUint64, 0} {
			l = append(l, command(ann, seq), tick())
			want = append(want, ticked(full(0)))
		}
		for _, seq := range []uint64{0, 7, math.MaxUint64} {
			wantLabels(t, counted(append(l, bye(ann, seq))...), append(slices.Clone(want), left(0))...)
		}
	}
}

// A session without commands for very many ticks is there still: idleness is not looked at; many commands are in no rate.
func TestIdlenessNotLookedAt(t *testing.T) {
	ann := joinOf(1, 31, "ann")
	l := []api.Entry{ann}
	want := []api.Label{joined(31, "ann")}
	for range 3000 {
		l, want = append(l, tick()), append(want, ticked())
	}
	for range 3000 {
		l, want = append(l, command(ann, 1), tick()), append(want, ticked(full(31)))
	}
	wantLabels(t, counted(l...), want...)
}

// P19.2: the intent of each command that a datagram can bring is the legal one.
func TestIntents(t *testing.T) {
	ann := joinOf(1, 7, "ann")
	l := []api.Entry{ann}
	want := []api.Label{joined(7, "ann")}
	for throttle := -128; throttle <= 127; throttle++ {
		for _, turn := range []int{-128, -127, -20, -9, -8, -7, -1, 0, 1, 7, 8, 9, 100, 127} {
			for flags := range 4 {
				l = append(l, of(ann, api.LbCommand, 3, commandOf(1, 3, int8(throttle), int8(turn), byte(flags))), tick())
				want = append(want, ticked(api.Intent{Player: 7, Throttle: min(max(throttle, -100), 100), Turn: min(max(turn, -8), 8), Fire: flags&1 != 0, Boost: flags&2 != 0}))
			}
		}
	}
	wantLabels(t, counted(l...), want...)
}

// crowd gives joins of all players, in the order of some steps round, and their names.
func crowd(step int) []api.Entry {
	var joins []api.Entry
	for i := range 32 {
		player := (i*step + 5) % 32
		joins = append(joins, joinOf(uint64(10*i+1), player, "p"+string(rune('a'+player%26))+string(rune('a'+player/26))))
	}
	return joins
}

// P19.2: the intents of all 32 players are told by Player, rising, whatever the order of their joins and of their commands; those who sent none, or left, are not among them.
func TestIntentsRise(t *testing.T) {
	for _, step := range []int{1, 3, 7, 31} {
		joins := crowd(step)
		for _, back := range []bool{false, true} {
			l := slices.Clone(joins)
			var want []api.Label
			for _, j := range joins {
				want = append(want, joined(j.Player, j.Name))
			}
			if back {
				slices.Reverse(joins)
			}
			var intents []api.Intent
			for _, j := range joins {
				if j.Player%5 != 3 {
					l = append(l, of(j, api.LbCommand, 1, commandOf(j.Session, 1, int8(j.Player), 1, 0)))
				}
				if j.Player%7 == 6 {
					l = append(l, idle(j))
					want = append(want, left(j.Player))
				}
			}
			for player := range 32 {
				if player%5 != 3 && player%7 != 6 {
					intents = append(intents, api.Intent{Player: player, Throttle: player, Turn: 1})
				}
			}
			wantLabels(t, counted(append(l, tick(), tick())...), append(want, ticked(intents...), ticked())...)
		}
	}
}

// All players are there: each one more is refused; one leaves: just its player is free.
func TestFullHall(t *testing.T) {
	joins := crowd(11)
	for player := range 32 {
		wantLast(t, counted(append(slices.Clone(joins), joinOf(1000, player, "one_more"))...))
	}
	for i, gone := range joins {
		l := append(slices.Clone(joins), bye(gone, 1))
		for player := range 32 {
			next := counted(append(slices.Clone(l), joinOf(1000, player, "one_more"))...)
			if player != gone.Player {
				wantLast(t, next)
			} else if labels, e := book.Labels(next); e != api.OK || len(labels) != 34 || !sameLabel(labels[33], joined(player, "one_more")) {
				t.Fatalf("%d: %v", i, e)
			}
		}
	}
}

// P19.2: Replay is the Rulebook's run of the labels, on any board; with an error of Labels that, and no arena.
func TestReplay(t *testing.T) {
	ann, bob := joinOf(1, 0, "ann"), joinOf(2, 1, "bob")
	fire := of(ann, api.LbCommand, 2, commandOf(1, 2, 3, 4, 1))
	l := counted(ann, command(ann, 1), tick(), bob, fire, command(bob, 4), tick(), tick(), idle(ann), tick())
	want := []api.Label{joined(0, "ann"), ticked(full(0)), joined(1, "bob"), ticked(api.Intent{Throttle: 3, Turn: 4, Fire: true}, full(1)), ticked(), left(0), ticked()}
	wantLabels(t, l, want...)
	for _, text := range []string{example, "###\n#S#\n###", "#######\n#S.A..#\n#.E..S#\n#######\n"} {
		b := parsed(t, text)
		state, e := rule.Run(b, want)
		if got, f := book.Replay(b, l); e != api.OK || f != api.OK || !rule.Equal(got, state) || got.Tick != 4 || len(got.Cars) != 1 {
			t.Errorf("Replay = %+v, %v, want %+v, %v", got, f, state, e)
		}
		if got, e := book.Replay(b, nil); e != api.OK || !rule.Equal(got, rule.Empty()) {
			t.Errorf("Replay of none = %+v, %v", got, e)
		}
		wantNoReplay(t, b, append(slices.Clone(l), tick()))
		wantNoReplay(t, b, counted(bob, ann, tick()))
		wantNoReplay(t, b, append(slices.Clone(l), api.Entry{Kind: 9, Tick: 4}))
	}
}

func wantNoReplay(t *testing.T, b *board.Board, l []api.Entry) {
	t.Helper()
	if got, e := book.Replay(b, l); e != api.ErrLedger || !rule.Equal(got, api.State{}) {
		t.Errorf("Replay(%+v) = %+v, %v, want ErrLedger", l, got, e)
	}
}

// Example 1 replayed: the heading is 248 behind a turn of -8.
func TestReplayExample(t *testing.T) {
	ann := joinOf(1, 0, "ann")
	s, e := book.Replay(parsed(t, example), counted(ann, command(ann, 1), tick()))
	if e != api.OK || s.Tick != 1 || len(s.Cars) != 1 || s.Cars[0].Name != "ann" || s.Cars[0].Heading != 248 || s.Cars[0].Speed == (api.Vec{}) {
		t.Errorf("%+v, %v", s, e)
	}
}
