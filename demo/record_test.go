package demo_test

import (
	"math"
	"slices"
	"testing"

	"joust/api"
	"joust/board"
	"joust/demo"
	"joust/rule"
)

// refused gives labels that the Rulebook refuses of an arena in which the players 0 and 5 are and 1 is not, with their errors: each alone, and such as have more than their plain form.
func refused() map[api.Errno][]api.Label {
	one := []api.Intent{{Player: 0}}
	return map[api.Errno][]api.Label{
		api.ErrPlayer: {
			joinOf(0, "again"), joinOf(5, ""), joinOf(-1, "x"), joinOf(32, "x"), joinOf(33, "x"), joinOf(256, "x"), joinOf(257, "x"), joinOf(-255, "x"), joinOf(1<<32+1, "x"), joinOf(math.MinInt, "x"), joinOf(math.MaxInt, "x"),
			leaveOf(1), leaveOf(31), leaveOf(-1), leaveOf(32), leaveOf(256), leaveOf(1 << 32), leaveOf(-256), leaveOf(math.MinInt),
		},
		api.ErrLabel: {
			{}, {Kind: 4}, {Kind: -1}, {Kind: 257}, {Kind: 258}, {Kind: 259}, {Kind: 1<<32 + 3}, {Kind: math.MinInt}, {Kind: math.MaxInt, Player: 1},
			{Kind: api.LbTick, Player: 1}, {Kind: api.LbTick, Player: -1}, {Kind: api.LbTick, Name: "x"}, {Kind: api.LbTick, Name: "\x00", Intents: one},
			{Kind: api.LbJoin, Player: 1, Intents: one}, {Kind: api.LbJoin, Player: 0, Name: "x", Intents: one}, {Kind: api.LbJoin, Player: 1, Intents: make([]api.Intent, 1)},
			{Kind: api.LbLeave, Player: 0, Intents: one}, {Kind: api.LbLeave, Player: 0, Name: "ann"}, {Kind: api.LbLeave, Player: 5, Name: "\x00"},
			tickOf(api.Intent{Player: 1}), tickOf(api.Intent{Player: -1}), tickOf(api.Intent{Player: 256}), tickOf(api.Intent{Player: 1 << 32}),
			tickOf(api.Intent{Player: 5}, api.Intent{Player: 0}), tickOf(api.Intent{Player: 0}, api.Intent{Player: 0}), tickOf(api.Intent{Player: 0}, api.Intent{Player: 5}, api.Intent{Player: 6}),
			tickOf(api.Intent{Throttle: 101}), tickOf(api.Intent{Throttle: -101}), tickOf(api.Intent{Throttle: 256}), tickOf(api.Intent{Throttle: math.MinInt}),
			tickOf(api.Intent{Turn: 9}), tickOf(api.Intent{Turn: -9}), tickOf(api.Intent{Turn: 256}), tickOf(api.Intent{Player: 0}, api.Intent{Player: 5, Turn: math.MaxInt}),
		},
	}
}

// 26.1: lists that the Rulebook refuses, for one label at any place.
func TestRecordRefused(t *testing.T) {
	b := parsed(t, example)
	for want, labels := range refused() {
		for _, x := range labels {
			for _, n := range []int{0, 1, 31, 32, 33} {
				list := slices.Concat([]api.Label{joinOf(5, "eve"), joinOf(0, "ann")}, ticks(n), []api.Label{x})
				if _, e := rule.Run(b, list); e != want {
					t.Fatalf("%+v: Run: %v", x, e)
				}
				wantNoRecord(t, b, want, list...)
				wantNoRecord(t, b, want, slices.Concat(list, ticks(1))...)
				// The first one tells the error, whatever comes behind it.
				wantNoRecord(t, b, want, append(list, leaveOf(9), api.Label{Kind: 9}, joinOf(99, ""))...)
			}
		}
	}
	for _, x := range []api.Label{leaveOf(0), leaveOf(5), joinOf(-1, ""), joinOf(32, "")} {
		wantNoRecord(t, b, api.ErrPlayer, x)
		wantNoRecord(t, b, api.ErrPlayer, x, api.Label{})
	}
	for _, x := range []api.Label{{}, {Kind: 4}, tickOf(api.Intent{}), {Kind: api.LbTick, Player: 1}} {
		wantNoRecord(t, b, api.ErrLabel, x)
		wantNoRecord(t, b, api.ErrLabel, x, leaveOf(0))
	}
}

// 26.1: labels of any match, of which one is exchanged, laid in, or taken out: refused or not, as Run says.
func TestRecordAny(t *testing.T) {
	d := dice(362436069)
	answers := map[api.Errno]int{}
	var bad []api.Label
	for _, want := range []api.Errno{api.ErrPlayer, api.ErrLabel} {
		bad = append(bad, refused()[want]...)
	}
	for range rounds(1500) {
		b := pick(&d, boards(t)...)
		l := d.match(t, b, d.within(1, 60))
		at := d.below(len(l))
		switch d.below(5) {
		case 0:
			l[at] = pick(&d, bad...)
		case 1:
			l = slices.Insert(l, at, pick(&d, bad...))
		case 2:
			l = slices.Delete(l, at, at+1)
		case 3:
			l[at], l[d.below(len(l))] = l[d.below(len(l))], l[at]
		}
		_, want := rule.Run(b, l)
		answers[want]++
		if want != api.OK {
			wantNoRecord(t, b, want, l...)
		} else {
			wantLabels(t, recorded(t, b, l...), l...)
		}
	}
	for _, e := range []api.Errno{api.OK, api.ErrPlayer, api.ErrLabel} {
		if answers[e] < rounds(100) {
			t.Error(answers)
		}
	}
}

// 26.2: no label, no tick, and numbers of ticks about those of the keyframes; joins and leaves are not counted.
func TestCounts(t *testing.T) {
	b := parsed(t, example)
	for n, keys := range map[int][]uint64{0: {0}, 1: {0}, 2: {0}, 30: {0}, 31: {0}, 32: {0, 32}, 33: {0, 32}, 63: {0, 32}, 64: {0, 32, 64}, 65: {0, 32, 64}, 95: {0, 32, 64}, 96: {0, 32, 64, 96}, 128: {0, 32, 64, 96, 128}} {
		for _, joins := range []int{0, 1, 32} {
			var ahead, behind []api.Label
			for player := range joins {
				ahead = append(ahead, joinOf(player, "x"))
				behind = append(behind, leaveOf(player))
			}
			l := slices.Concat(ahead, ticks(n))
			wantCounts(t, recorded(t, b, l...), uint64(n), keys...)
			l = append(l, behind...)
			wantCounts(t, recorded(t, b, l...), uint64(n), keys...)
			wantLabels(t, recorded(t, b, l...), l...)
		}
	}
	// Joins and leaves between all ticks move no keyframe.
	var l []api.Label
	for range 70 {
		l = append(l, joinOf(0, "x"), tickOf(), leaveOf(0))
	}
	wantCounts(t, recorded(t, b, l...), 70, 0, 32, 64)
}

// 26.2: a long demo, all of whose keyframes rise, whatever order they are kept in.
func TestManyKeys(t *testing.T) {
	b := parsed(t, example)
	d := recorded(t, b, ticks(3000)...)
	var want []uint64
	for n := uint64(0); n <= 3000; n += 32 {
		want = append(want, n)
	}
	for range 5 {
		wantCounts(t, d, 3000, want...)
	}
}

// 26.2: labels of any match are told plain, whichever way their lists are empty.
func TestLabelsArePlain(t *testing.T) {
	b := parsed(t, example)
	none := []api.Intent{}
	l := []api.Label{
		{Kind: api.LbJoin, Player: 2, Name: "x", Intents: none},
		{Kind: api.LbTick, Intents: none},
		{Kind: api.LbTick, Intents: make([]api.Intent, 0, 5)},
		{Kind: api.LbTick, Intents: []api.Intent{{Player: 2, Throttle: -100, Turn: 8, Fire: true}}},
		{Kind: api.LbLeave, Player: 2, Intents: none},
	}
	d := recorded(t, b, l...)
	wantLabels(t, d, joinOf(2, "x"), tickOf(), tickOf(), tickOf(api.Intent{Player: 2, Throttle: -100, Turn: 8, Fire: true}), leaveOf(2))
	if d.Write() != plainWrite(b, l) {
		t.Error("lists that are empty are written otherwise")
	}
}

// R13: a demo tells the same, whatever was asked of it and of others between.
func TestAlwaysTheSame(t *testing.T) {
	d := dice(88675123)
	for range rounds(30) {
		b, c := pick(&d, boards(t)...), pick(&d, boards(t)...)
		l, m := d.match(t, b, 100), d.match(t, c, 80)
		one, other := recorded(t, b, l...), recorded(t, c, m...)
		text := one.Write()
		for range 20 {
			ask(&d, c, other)
			ask(&d, b, one)
			tick := uint64(d.below(int(one.Ticks()) + 1))
			again := recorded(t, b, l...)
			want, _ := again.Seek(tick)
			wantSeek(t, one, tick, want)
			if one.Write() != text || again.Write() != text || !slices.Equal(one.Keys(), again.Keys()) || one.Ticks() != again.Ticks() {
				t.Fatal("a demo has changed")
			}
			wantLabels(t, one, l...)
		}
	}
}

// ask asks a demo for anything.
func ask(d *dice, b *board.Board, x *demo.Demo) {
	switch d.below(6) {
	case 0:
		x.Seek(d.word())
	case 1:
		x.Seek(uint64(d.below(int(x.Ticks()) + 2)))
	case 2:
		x.Labels()
	case 3:
		x.Keys()
	case 4:
		demo.Read(b, x.Write())
	case 5:
		demo.Record(b, append(x.Labels(), api.Label{}))
	}
}
