package book_test

import (
	"math"
	"slices"
	"strings"
	"testing"

	"joust/api"
	"joust/book"
)

// begun is a ledger with two ticks, in which ann (session 3, player 2) and bob (session 5, player 0) are there and no command waits; eve (session 4, player 1) has left.
func begun() (l []api.Entry, ann, bob, eve api.Entry) {
	ann, bob, eve = joinOf(3, 2, "ann"), joinOf(5, 0, "bob"), joinOf(4, 1, "eve")
	l = counted(ann, eve, command(ann, 1), tick(), command(eve, 1), bye(eve, 2), bob, tick())
	return l, ann, bob, eve
}

// next gives begun with one entry more, whose Tick is right.
func next(x api.Entry) []api.Entry {
	l, _, _, _ := begun()
	return counted(append(l, x)...)
}

// wantChanged asks that an entry may come behind begun, and that none of its changes may.
func wantChanged(t *testing.T, x api.Entry, changes ...func(x *api.Entry)) {
	t.Helper()
	if _, e := book.Labels(next(x)); e != api.OK {
		t.Fatalf("%+v: %v", x, e)
	}
	for _, change := range changes {
		y := x
		change(&y)
		if y == x {
			t.Fatalf("%+v is not changed", x)
		}
		wantLast(t, next(y))
	}
}

// four gives an entry of each kind that may come behind begun, and the leave by a bye as a fifth.
func four() []api.Entry {
	_, ann, bob, _ := begun()
	return []api.Entry{joinOf(6, 1, "eve"), command(ann, 2), idle(bob), tick(), bye(bob, 7)}
}

// Rule 1: all kinds beyond the four, with the fields of each kind, and of none; and each kind with another one's fields.
func TestKinds(t *testing.T) {
	list := append(four(), api.Entry{})
	for i, x := range list {
		for _, kind := range []int{0, 5, 6, 7, -1, -2, -3, -4, 128, 255, 256, 257, 258, 259, 260, -255, -253, 1 << 32, 1<<32 + 1, 1<<32 + 2, 1<<32 + 3, 1<<32 + 4, math.MaxInt, math.MinInt, math.MinInt + 3} {
			x.Kind = kind
			wantLast(t, next(x))
		}
		for kind := 1; kind <= 4; kind++ {
			if x.Kind = kind; i == 5 && kind == api.LbTick || i < 5 && kind == list[i].Kind {
				continue
			}
			wantLast(t, next(x))
		}
	}
}

// Rule 1: Tick of each kind, one too low, one too high, and others; the first entry's, too.
func TestTicks(t *testing.T) {
	for _, x := range four() {
		if _, e := book.Labels(next(x)); e != api.OK {
			t.Fatal(e)
		}
		for _, n := range []uint64{0, 1, 3, 4, 258, 1<<32 + 2, 1<<63 + 2, math.MaxUint64, math.MaxUint64 - 1} {
			l := next(x)
			l[len(l)-1].Tick = n
			wantLast(t, l)
		}
	}
	for _, x := range []api.Entry{joinOf(1, 0, "ann"), tick()} {
		for _, n := range []uint64{1, 2, 1 << 32, math.MaxUint64} {
			x.Tick = n
			wantLast(t, []api.Entry{x})
		}
	}
}

// Rule 1: only ticks are counted.
func TestTicksAreCounted(t *testing.T) {
	ann := joinOf(1, 0, "ann")
	l := []api.Entry{ann, command(ann, 1), idle(ann), tick(), tick()}
	l[4].Tick = 1
	wantLabels(t, l, joined(0, "ann"), left(0), ticked(), ticked())
	for i := range 5 {
		for _, by := range []uint64{1, math.MaxUint64} {
			y := slices.Clone(l[:i+1])
			y[i].Tick += by
			wantLast(t, y)
		}
	}
}

// Rule 2: each field of a tick that is not zero.
func TestTickFields(t *testing.T) {
	_, ann, _, _ := begun()
	for _, text := range []string{"x", "\x00", "ann", ann.From, ann.Data, byeOf(0, 0), commandOf(0, 0, 0, 0, 0)} {
		wantChanged(t, tick(),
			func(x *api.Entry) { x.Name = text },
			func(x *api.Entry) { x.From = text },
			func(x *api.Entry) { x.Data = text },
		)
	}
	for _, n := range []uint64{1, 3, 1 << 32, 1 << 63, math.MaxUint64} {
		wantChanged(t, tick(),
			func(x *api.Entry) { x.Session = n },
			func(x *api.Entry) { x.Seq = n },
			func(x *api.Entry) { x.Player = int(n) },
		)
	}
	wantChanged(t, tick(), func(x *api.Entry) { *x = of(ann, api.LbTick, 0, "") })
}

// Rule 3: sessions at and below those that were there, the one that left and the highest one among them; above it all may be.
func TestJoinSession(t *testing.T) {
	frank := joinOf(6, 1, "frank")
	for _, n := range []uint64{0, 1, 2, 3, 4, 5} {
		wantChanged(t, frank, func(x *api.Entry) { x.Session = n })
	}
	for _, n := range []uint64{6, 7, 256, 1 << 32, 1 << 63, math.MaxUint64} {
		wantChanged(t, joinOf(n, 1, "frank"))
	}
	wantLast(t, counted(joinOf(0, 0, "ann")))
	wantLabels(t, counted(joinOf(1, 0, "ann")), joined(0, "ann"))
	wantLabels(t, counted(joinOf(math.MaxUint64, 0, "ann")), joined(0, "ann"))
	for _, n := range []uint64{0, 1, math.MaxUint64 - 1, math.MaxUint64} {
		wantLast(t, counted(joinOf(math.MaxUint64, 0, "ann"), joinOf(n, 1, "bob")))
	}
	wantLabels(t, counted(joinOf(1<<63-1, 0, "ann"), joinOf(1<<63, 1, "bob")), joined(0, "ann"), joined(1, "bob"))
	ann := joinOf(1<<40, 0, "ann")
	wantLast(t, counted(ann, idle(ann), joinOf(1, 0, "bob")))
}

// Rule 3: players beyond 0 to 31, and those that somebody has.
func TestJoinPlayer(t *testing.T) {
	for player := -40; player < 80; player++ {
		x := joinOf(6, player, "frank")
		if player >= 0 && player < 32 && player != 0 && player != 2 {
			wantLabels(t, next(x), joined(2, "ann"), joined(1, "eve"), ticked(full(2)), left(1), joined(0, "bob"), ticked(), joined(player, "frank"))
		} else {
			wantLast(t, next(x))
		}
	}
	for _, player := range []int{256, 257, -255, -256, 1 << 32, 1<<32 + 1, math.MaxInt, math.MinInt, math.MinInt + 1} {
		wantChanged(t, joinOf(6, 1, "frank"), func(x *api.Entry) { x.Player = player })
	}
}

// Rule 3: names that name.Check refuses, said by the connect too; and the longest that it takes.
func TestJoinName(t *testing.T) {
	for _, name := range []string{"", " ", "a b", "ann ", "ann\x00", "a\xc3", "\xff", "thirteenchars", "a\u00d7", "\u00f7", "\u03a3", "\ufffd", "a.b", strings.Repeat("\u00e9", 13), strings.Repeat("x", 25), strings.Repeat("x", 255)} {
		wantLast(t, next(joinOf(6, 1, name)))
	}
	for _, name := range []string{"a", "-", "_", "0", "twelve_chars", strings.Repeat("\u00e9", 12), "\u03b1\u03c9", "\u00c0\u00d6\u00d8\u00de\u00df\u00f6\u00f8\u00ff"} {
		l := next(joinOf(6, 1, name))
		if labels, e := book.Labels(l); e != api.OK || !sameLabel(labels[len(labels)-1], joined(1, name)) {
			t.Errorf("%q: %+v, %v", name, labels, e)
		}
	}
}

// Rule 3: names that are the same as those of sessions that are there, whichever it is; of one that left, or near one that is there, they may be.
func TestJoinSameName(t *testing.T) {
	for _, name := range []string{"ann", "ANN", "Ann", "bob", "BoB"} {
		wantLast(t, next(joinOf(6, 1, name)))
	}
	for _, name := range []string{"eve", "EVE", "anna", "an", "b0b", "nna"} {
		wantChanged(t, joinOf(6, 1, name))
	}
	for _, pair := range [][2]string{{"\u00e9va", "\u00c9VA"}, {"\u00c9va", "\u00e9vA"}, {"x", "X"}, {"\u00fe", "\u00de"}} {
		wantLast(t, counted(joinOf(1, 4, pair[0]), joinOf(2, 5, pair[1])))
		wantLast(t, counted(joinOf(1, 31, pair[0]), joinOf(2, 0, "other"), joinOf(3, 30, pair[1])))
	}
	wantLabels(t, counted(joinOf(1, 4, "e"), joinOf(2, 5, "\u00e9"), joinOf(3, 6, "\u00df"), joinOf(4, 7, "\u00ff")), joined(4, "e"), joined(5, "\u00e9"), joined(6, "\u00df"), joined(7, "\u00ff"))
}

// Rule 3: a Seq that is not 0; Data of every other kind, and with another name.
func TestJoinData(t *testing.T) {
	frank := joinOf(6, 1, "frank")
	for _, n := range []uint64{1, 6, 1 << 32, math.MaxUint64} {
		wantChanged(t, frank, func(x *api.Entry) { x.Seq = n })
	}
	for _, data := range append(others(3, "frank", 6, 0), "") {
		wantChanged(t, frank, func(x *api.Entry) { x.Data = data })
	}
	for _, name := range []string{"", "fran", "frankk", "Frank", "FRANK", "carl", "frank\x00", " frank", "ann", "a b"} {
		wantChanged(t, frank,
			func(x *api.Entry) { x.Data = connectOf(name) },
			func(x *api.Entry) { x.Name = name },
		)
	}
}

// strangers are the changes that make an entry none of its session: another number (that of its Data too), player, name, source.
func strangers(data func(session uint64) string) []func(x *api.Entry) {
	var list []func(x *api.Entry)
	for _, n := range []uint64{0, 1, 2, 4, 5, 6, 1<<32 + 3, math.MaxUint64} {
		list = append(list, func(x *api.Entry) { x.Session, x.Data = n, data(n) })
	}
	for _, player := range []int{-1, 0, 1, 3, 31, 32, 258, 1<<32 + 2, math.MinInt, math.MaxInt} {
		list = append(list, func(x *api.Entry) { x.Player = player })
	}
	for _, text := range []string{"", "Ann", "ANN", "an", "annn", "bob", "eve", "from ann ", "from an", "From ann", "from bob"} {
		list = append(list, func(x *api.Entry) { x.Name = text }, func(x *api.Entry) { x.From = text })
	}
	_, _, bob, eve := begun()
	for _, other := range []api.Entry{bob, eve} {
		list = append(list,
			func(x *api.Entry) { x.Player, x.Name, x.From = other.Player, other.Name, other.From },
			func(x *api.Entry) { x.Player, x.Name = other.Player, other.Name },
			func(x *api.Entry) { x.Session, x.Data = other.Session, data(other.Session) },
		)
	}
	return append(list, func(x *api.Entry) { *x = of(eve, x.Kind, x.Seq, data(eve.Session)) })
}

// Rule 4: commands of sessions that are not there, or are with another player, name or source.
func TestCommandSession(t *testing.T) {
	_, ann, _, _ := begun()
	wantChanged(t, command(ann, 2), strangers(func(session uint64) string { return commandOf(session, 2, 1, 1, 0) })...)
}

// Rule 4: Data of every other kind, with another session, with another seq.
func TestCommandData(t *testing.T) {
	_, ann, _, _ := begun()
	for _, data := range append(others(5, "ann", 3, 2), "") {
		wantChanged(t, command(ann, 2), func(x *api.Entry) { x.Data = data })
	}
	wantChanged(t, command(ann, 0), func(x *api.Entry) { x.Data = "" }, func(x *api.Entry) { x.Data = byeOf(3, 0) })
	for _, n := range []uint64{0, 1, 4, 5, 1<<32 + 2, 1<<63 + 2, 1<<63 + 3, math.MaxUint64} {
		wantChanged(t, command(ann, 2),
			func(x *api.Entry) { x.Data = commandOf(n, 2, 127, -20, 0) },
			func(x *api.Entry) { x.Data = commandOf(3, n, 127, -20, 0) },
			func(x *api.Entry) { x.Seq = n },
		)
	}
	for flags := 4; flags < 256; flags++ {
		wantChanged(t, command(ann, 2), func(x *api.Entry) { x.Data = commandOf(3, 2, 1, 1, byte(flags)) })
	}
}

// Rule 4: a second command between two ticks, whatever stands between them; one of each session may be.
func TestSecondCommand(t *testing.T) {
	l, ann, bob, _ := begun()
	carl := joinOf(6, 1, "carl")
	for _, between := range [][]api.Entry{{}, {command(bob, 1)}, {carl}, {carl, command(carl, 1)}, {idle(bob)}, {bye(bob, 1)}, {carl, idle(bob), command(carl, 9), idle(carl)}} {
		for _, seq := range []uint64{0, 1, 2, 3, math.MaxUint64} {
			all := append(append(slices.Clone(l), command(ann, 2)), between...)
			wantLast(t, counted(append(all, command(ann, seq))...))
			all = append(all, tick(), command(ann, seq))
			wantLast(t, counted(append(all, command(ann, seq))...))
			if _, e := book.Labels(counted(all...)); e != api.OK {
				t.Fatalf("behind a tick: %v", e)
			}
		}
	}
}

// Rule 4: none behind its session's leave, ahead of a tick and behind one.
func TestCommandBehindLeave(t *testing.T) {
	l, ann, bob, _ := begun()
	for _, leave := range []api.Entry{idle(ann), bye(ann, 5)} {
		for _, between := range [][]api.Entry{{}, {tick()}, {command(bob, 1)}, {joinOf(6, 2, "carl")}, {joinOf(6, 2, "ann")}, {tick(), joinOf(6, 2, "ann"), tick()}} {
			all := append(append(slices.Clone(l), leave), between...)
			wantLast(t, counted(append(all, command(ann, 2))...))
			wantLast(t, counted(append(all, idle(ann))...))
			wantLast(t, counted(append(all, bye(ann, 6))...))
		}
	}
}

// Rules 4 and 5: session 0 is nobody's, though a player's place where nobody is may look like it.
func TestSessionZero(t *testing.T) {
	ann := joinOf(1, 0, "ann")
	for _, ahead := range [][]api.Entry{{}, {tick()}, {ann}, {ann, idle(ann)}, {ann, command(ann, 1), bye(ann, 2), tick()}} {
		for player := range 32 {
			nobody := api.Entry{Player: player}
			wantLast(t, counted(append(slices.Clone(ahead), of(nobody, api.LbCommand, 0, commandOf(0, 0, 1, 1, 0)))...))
			wantLast(t, counted(append(slices.Clone(ahead), of(nobody, api.LbCommand, 4, commandOf(0, 4, 1, 1, 0)))...))
			wantLast(t, counted(append(slices.Clone(ahead), of(nobody, api.LbLeave, 0, ""))...))
			wantLast(t, counted(append(slices.Clone(ahead), of(nobody, api.LbLeave, 4, byeOf(0, 4)))...))
		}
	}
}

// Rule 5: leaves of sessions that are not there, or are with another player, name or source.
func TestLeaveSession(t *testing.T) {
	_, ann, _, _ := begun()
	wantChanged(t, bye(ann, 2), strangers(func(session uint64) string { return byeOf(session, 2) })...)
	wantChanged(t, idle(ann), strangers(func(session uint64) string { return "" })...)
}

// Rule 5: Data of every other kind, with another session or seq; none with a Seq.
func TestLeaveData(t *testing.T) {
	_, ann, _, _ := begun()
	for _, seq := range []uint64{0, 2} {
		for _, data := range others(7, "ann", 3, seq) {
			wantChanged(t, bye(ann, seq), func(x *api.Entry) { x.Data = data })
		}
		for _, n := range []uint64{1, 4, 5, 1<<32 + 2, 1 << 63, 1<<63 + 3, math.MaxUint64} {
			wantChanged(t, bye(ann, seq),
				func(x *api.Entry) { x.Data = byeOf(n, seq) },
				func(x *api.Entry) { x.Data = byeOf(3, n) },
				func(x *api.Entry) { x.Seq = n },
			)
			wantChanged(t, idle(ann), func(x *api.Entry) { x.Seq = n })
		}
	}
	wantChanged(t, bye(ann, 2), func(x *api.Entry) { x.Data = "" })
	wantChanged(t, idle(ann), func(x *api.Entry) { x.Data = byeOf(0, 0) })
}

// Rule 5: one that left is there no longer; the others are.
func TestLeaveTwice(t *testing.T) {
	l, ann, bob, _ := begun()
	for _, first := range []api.Entry{idle(ann), bye(ann, 2)} {
		for _, second := range []api.Entry{idle(ann), bye(ann, 2), bye(ann, 3), command(ann, 2)} {
			wantLast(t, counted(append(slices.Clone(l), first, second)...))
			wantLast(t, counted(append(slices.Clone(l), first, tick(), second)...))
		}
		labels, e := book.Labels(counted(append(slices.Clone(l), first, command(bob, 1), tick(), idle(bob), tick())...))
		if e != api.OK || !sameLabels(labels[6:], []api.Label{left(2), ticked(full(0)), left(0), ticked()}) {
			t.Errorf("%+v, %v", labels, e)
		}
	}
}

// What is refused once is refused whatever comes behind it.
func TestRefusedStays(t *testing.T) {
	_, ann, _, _ := begun()
	for _, x := range []api.Entry{{}, {Kind: 5}, joinOf(5, 1, "carl"), joinOf(6, 0, "carl"), of(ann, api.LbLeave, 1, ""), of(ann, api.LbTick, 0, "")} {
		l := next(x)
		wantLast(t, l)
		for _, y := range append(four(), idle(ann), tick()) {
			y.Tick = 2
			l = append(l, y)
			wantRefused(t, l)
		}
	}
}
