package demo_test

import (
	"slices"
	"testing"

	"joust/api"
	"joust/board"
	"joust/rule"
	"joust/vec"
)

// dice give numbers that look like chance and are the same in every run.
type dice uint64

func (d *dice) word() uint64 {
	*d ^= *d << 13
	*d ^= *d >> 7
	*d ^= *d << 17
	return uint64(*d) * 0x2545f4914f6cdd1d
}

func (d *dice) below(n int) int { return int(d.word() >> 20 % uint64(n)) }

func (d *dice) within(least, most int) int { return least + d.below(most-least+1) }

func (d *dice) one(n int) bool { return d.below(n) == 0 }

func (d *dice) bytes(n int) string {
	b := make([]byte, n)
	for i := range b {
		b[i] = byte(d.word() >> 30)
	}
	return string(b)
}

func pick[T any](d *dice, list ...T) T { return list[d.below(len(list))] }

// rounds are fewer where there is no time.
func rounds(n int) int {
	if testing.Short() {
		return max(1, n/10)
	}
	return n
}

// boards are of one spawn, of few and of many.
func boards(t *testing.T) []*board.Board {
	t.Helper()
	return []*board.Board{parsed(t, example), parsed(t, yard), parsed(t, "###\n#S#\n###"), parsed(t, "#########\n#S.E.A.S#\n#########\n")}
}

// intent is any legal one, most of them towards another car, so that there are hits and wrecks.
func (d *dice) intent(s api.State, c api.Car) api.Intent {
	i := api.Intent{Player: c.Player, Throttle: pick(d, 100, -100, 0, d.within(-100, 100)), Turn: d.within(-8, 8), Fire: d.one(2), Boost: d.one(3)}
	if other := pick(d, s.Cars...); other.Player != c.Player && !d.one(4) {
		way := (vec.Toward(c.At, other.At)-c.Heading+384)%256 - 128
		i.Turn = max(-8, min(way, 8))
	}
	return i
}

// label is one that the Rulebook takes of an arena; in every third to every sixtieth a player comes or goes.
func (d *dice) label(s api.State, often int) api.Label {
	if d.one(often) {
		player := d.below(32)
		if slices.ContainsFunc(s.Cars, func(c api.Car) bool { return c.Player == player }) {
			return leaveOf(player)
		}
		return joinOf(player, d.bytes(d.below(pick(d, 3, 30, 300))))
	}
	var list []api.Intent
	for _, c := range s.Cars {
		if !d.one(5) {
			list = append(list, d.intent(s, c))
		}
	}
	return tickOf(list...)
}

// match is a list of so many labels that the Rulebook takes.
func (d *dice) match(t *testing.T, b *board.Board, n int) []api.Label {
	t.Helper()
	var list []api.Label
	s := rule.Empty()
	often := pick(d, 3, 8, 60)
	for range n {
		l := d.label(s, often)
		next, e := rule.Step(b, s, l)
		if e != api.OK {
			t.Fatalf("%+v of %+v: %v", l, s, e)
		}
		s = next
		list = append(list, l)
	}
	return list
}
