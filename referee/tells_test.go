package referee_test

import (
	"maps"
	"math"
	"slices"
	"testing"

	"joust/api"
	"joust/referee"
)

func wantSessions(t *testing.T, l []api.Entry, want map[uint64][]int) {
	t.Helper()
	got := referee.Sessions(l)
	if !maps.EqualFunc(got, want, slices.Equal) {
		t.Errorf("Sessions of %d entries: %v, want %v", len(l), got, want)
	}
}

// 27.2: of no entries, and of ticks alone, there is no session; a tick's number is nobody's.
func TestSessionsNone(t *testing.T) {
	wantSessions(t, nil, map[uint64][]int{})
	wantSessions(t, []api.Entry{}, map[uint64][]int{})
	wantSessions(t, ledger(ticks(5)), map[uint64][]int{})
	wantSessions(t, []api.Entry{{Kind: api.LbTick, Session: 7, Player: 3, Name: "ann", Data: "x"}}, map[uint64][]int{})
	wantSessions(t, []api.Entry{{Kind: api.LbTick, Session: 7}, {Kind: api.LbLeave, Session: 7}, {Kind: api.LbTick, Session: 7}}, map[uint64][]int{7: {1}})
}

// 27.2: numbers of any size, 0 too; kinds of any, those that are none too.
func TestSessionsAnyNumbers(t *testing.T) {
	l := []api.Entry{
		{Kind: 0, Session: 0}, {Kind: 5, Session: math.MaxUint64}, {Kind: -1, Session: 1 << 63}, {Kind: api.LbJoin}, {Kind: 3 + 1<<32, Session: 1 << 32}, {Kind: -3, Session: 1 << 32},
		{Kind: api.LbTick, Session: math.MaxUint64}, {Kind: api.LbCommand, Session: math.MaxUint64, Tick: 9, Seq: 4}, {Kind: math.MinInt, Session: 1}, {Kind: math.MaxInt, Session: 1},
	}
	wantSessions(t, l, map[uint64][]int{0: {0, 3}, math.MaxUint64: {1, 7}, 1 << 63: {2}, 1 << 32: {4, 5}, 1: {8, 9}})
}

// 27.2: of any list.
func TestSessionsAnyList(t *testing.T) {
	d := dice(5772156649)
	for range rounds(300) {
		var l []api.Entry
		want := map[uint64][]int{}
		for i := range d.below(60) {
			x := api.Entry{Kind: d.within(-1, 6), Session: pick(&d, uint64(d.below(5)), d.word(), math.MaxUint64-uint64(d.below(2))), Tick: d.word(), Seq: d.word(), Data: d.bytes(d.below(3))}
			l = append(l, x)
			if x.Kind != 3 {
				want[x.Session] = append(want[x.Session], i)
			}
		}
		wantSessions(t, l, want)
	}
}

// wantScore asks for hits, or for an error, beside which there are none.
func wantScore(t *testing.T, c api.Config, l []api.Entry, want map[string]int, wantErr api.Errno) {
	t.Helper()
	got, e := referee.Score(c, l)
	if e != wantErr || !maps.Equal(got, want) || e != api.OK && got != nil {
		t.Errorf("Score of %d entries: %v, %v, want %v, %v", len(l), got, e, want, wantErr)
	}
}

// 27.3: the board's errors, ahead of the ledger's.
func TestScoreErrors(t *testing.T) {
	bad := []api.Entry{{Kind: api.LbTick, Tick: 5}}
	for _, l := range [][]api.Entry{nil, ledger(join(1, 0, "ann"), tick()), bad, {{Kind: 9}}} {
		for board, want := range map[string]api.Errno{"": api.ErrBoard, "x": api.ErrBoard, "###\n": api.ErrBoard, "###\n#.#\n###": api.ErrPlace, "####\n#..#\n#S##\n": api.ErrPlace} {
			c := config()
			c.Board = board
			wantScore(t, c, l, nil, want)
		}
	}
	j := join(1, 0, "ann")
	for _, l := range [][]api.Entry{bad, {{Kind: 9}}, ledger(command(j, 1)), ledger(j, j), ledger(j, join(2, 1, "ANN")), ledger(j, tick(), command(j, 1), command(j, 2)), ledger(j, idle(j), idle(j)), ledger(join(1, 32, "ann")), ledger(join(1, 0, "a b"))} {
		wantScore(t, config(), l, nil, api.ErrLedger)
	}
}

// 27.3: nothing of the configuration counts but the board; nothing of the ledger but what book looks at.
func TestScoreLooksAtLittle(t *testing.T) {
	c := api.Config{Board: yard}
	wantScore(t, c, nil, map[string]int{}, api.OK)
	wantScore(t, c, ledger(ticks(3)), map[string]int{}, api.OK)
	eve := join(7, 31, "eve")
	l := ledger(eve, command(eve, 900), tick(), idle(eve), join(9, 31, "bob"), tick())
	wantScore(t, c, l[:4], map[string]int{}, api.OK)
	wantScore(t, c, l[:3], map[string]int{"eve": 0}, api.OK)
	wantScore(t, c, l, map[string]int{"bob": 0}, api.OK)
}

// 27.3: names are told byte by byte, as the session that is there at the end spells them.
func TestScoreNames(t *testing.T) {
	one, two, three := join(1, 0, "D\u00f6ra"), join(2, 1, "ann"), join(3, 0, "d\u00d6RA")
	l := ledger(one, two, tick(), bye(one, 1), three, join(4, 2, "anna"))
	wantScore(t, config(), l[:2], map[string]int{"D\u00f6ra": 0, "ann": 0}, api.OK)
	wantScore(t, config(), l[:4], map[string]int{"ann": 0}, api.OK)
	wantScore(t, config(), l, map[string]int{"d\u00d6RA": 0, "ann": 0, "anna": 0}, api.OK)
}

// shots is a ledger in which the player at the left of the pen fires at the one at the right, so often.
func shots(shooter, target api.Entry, n int) []api.Entry {
	l := list(shooter, target)
	for i := range n {
		seq := uint64(i + 1)
		fire := of(shooter, api.LbCommand, seq, tagged("J01\x05"+eight(shooter.Session)+eight(seq)+"\x00\x00\x01", keyOf(shooter.Session)))
		l = append(l, fire, tick())
	}
	return l
}

// 27.3: hits are counted for those who are there, and go with the session.
func TestScoreHits(t *testing.T) {
	c := wide()
	c.Board = pen
	one, two := join(1, 0, "ann"), join(2, 1, "bob")
	l := shots(one, two, 60)
	// Five hits make a wreck; shots are eight ticks apart.
	wantScore(t, c, ledger(l[:2+2*30]), map[string]int{"ann": 0, "bob": 0}, api.OK)
	wantScore(t, c, ledger(l), map[string]int{"ann": 1, "bob": 0}, api.OK)
	wantScore(t, c, ledger(l, idle(two)), map[string]int{"ann": 1}, api.OK)
	three := join(3, 0, "Ann")
	wantScore(t, c, ledger(l, bye(one, 99)), map[string]int{"bob": 0}, api.OK)
	wantScore(t, c, ledger(l, bye(one, 99), three), map[string]int{"Ann": 0, "bob": 0}, api.OK)
}
