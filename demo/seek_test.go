package demo_test

import (
	"math"
	"slices"
	"testing"
	"time"

	"joust/api"
	"joust/board"
	"joust/demo"
	"joust/rule"
)

// upTo is how many labels there are up to and with the nth tick; of none for 0.
func upTo(l []api.Label, n uint64) int {
	for i, x := range l {
		if n == 0 {
			return 0
		}
		if x.Kind == api.LbTick {
			if n--; n == 0 {
				return i + 1
			}
		}
	}
	return 0
}

// wantEverywhere asks for the arena behind every tick of a demo, and for none behind others (26.3).
func wantEverywhere(t *testing.T, b *board.Board, d *demo.Demo, l []api.Label) {
	t.Helper()
	for n := range d.Ticks() + 1 {
		wantSeek(t, d, n, ran(t, b, l[:upTo(l, n)]...))
	}
	n := d.Ticks()
	wantNoSeek(t, d, n+1, n+2, n+31, n+32, n+33, n+1<<8, n+1<<32, n+1<<63, 1<<63-1, 1<<63, math.MaxUint64-31, math.MaxUint64)
}

// counts says what came in a list that a demo was made of.
func counts(t *testing.T, b *board.Board, l []api.Label, into map[string]int) {
	t.Helper()
	end := ran(t, b, l...)
	for _, c := range end.Cars {
		into["points"] += c.Score
		into["comings"] += c.Spawns
	}
	into["shots"] += end.Next
	for _, x := range l {
		into[[]string{"", "join", "leave", "tick"}[x.Kind]]++
	}
}

// 26.3: every tick of any demo, asked in any order too, held against Run of the labels up to it.
func TestSeekEverywhere(t *testing.T) {
	d := dice(314159265)
	met := map[string]int{}
	for range rounds(20) {
		for _, b := range boards(t) {
			l := d.match(t, b, pick(&d, 0, 1, 20, 40, 70, 140, 300))
			x := recorded(t, b, l...)
			counts(t, b, l, met)
			wantEverywhere(t, b, x, l)
			for range 30 {
				n := uint64(d.below(int(x.Ticks()) + 1))
				wantSeek(t, x, n, ran(t, b, l[:upTo(l, n)]...))
			}
		}
	}
	for _, what := range []string{"points", "comings", "shots", "join", "leave", "tick"} {
		if met[what] < rounds(10) {
			t.Errorf("%s came only %d times", what, met[what])
		}
	}
}

// 26.3: the numbers of ticks about those of the keyframes, with something to be seen in each of them, and names to be told.
func TestSeekCounts(t *testing.T) {
	b := parsed(t, yard)
	for _, n := range []int{0, 1, 2, 30, 31, 32, 33, 34, 63, 64, 65, 96, 97} {
		l := []api.Label{joinOf(7, "ann"), joinOf(3, "\xffbob")}
		for i := range n {
			l = append(l, tickOf(api.Intent{Player: 3, Throttle: 100, Turn: i % 4, Fire: true}, api.Intent{Player: 7, Throttle: -50, Turn: -1, Boost: true}))
		}
		wantEverywhere(t, b, recorded(t, b, l...), l)
		l = append(l, leaveOf(3), joinOf(3, "carl"), leaveOf(7))
		wantEverywhere(t, b, recorded(t, b, l...), l)
	}
}

// 26.3: a player who joins again has the new name, from there on alone; players who exchange their places have their own.
func TestSeekNames(t *testing.T) {
	b := parsed(t, yard)
	var l []api.Label
	for i := range 40 {
		name := string(rune('a' + i%26))
		l = append(l, joinOf(0, name), joinOf(31, name+name), tickOf(), leaveOf(0), joinOf(0, name+"!"), tickOf(), leaveOf(0), leaveOf(31))
	}
	wantEverywhere(t, b, recorded(t, b, l...), l)
}

// all are the arenas that a demo tells, behind each of its ticks.
func all(t *testing.T, d *demo.Demo) []api.State {
	t.Helper()
	var states []api.State
	for n := range d.Ticks() + 1 {
		s, e := d.Seek(n)
		if e != api.OK {
			t.Fatalf("Seek(%d) of %d: %v", n, d.Ticks(), e)
		}
		states = append(states, s)
	}
	return states
}

// wantSteps asks that from each tick on the labels behind it come, step by step, to each later one (26.7).
func wantSteps(t *testing.T, b *board.Board, d *demo.Demo, l []api.Label) {
	t.Helper()
	states := all(t, d)
	for n, s := range states {
		var e api.Errno
		tick := n
		for _, x := range l[upTo(l, uint64(n)):] {
			if s, e = rule.Step(b, s, x); e != api.OK {
				t.Fatalf("Step(%+v) behind tick %d: %v", x, tick, e)
			}
			if x.Kind != api.LbTick {
				continue
			}
			if tick++; !same(s, states[tick]) {
				t.Fatalf("from tick %d on tick %d leaves %+v, want %+v", n, tick, s, states[tick])
			}
		}
		if tick != len(states)-1 {
			t.Fatalf("from tick %d on there are %d ticks, want %d", n, tick, len(states)-1)
		}
	}
}

// 26.7: from each tick on, to each later one, by the list and by what the demo tells of it.
func TestSteps(t *testing.T) {
	d := dice(8675309)
	for range rounds(5) {
		for _, b := range boards(t) {
			l := d.match(t, b, pick(&d, 10, 75, 120))
			x := recorded(t, b, l...)
			wantSteps(t, b, x, l)
			wantSteps(t, b, x, x.Labels())
		}
	}
}

// 26.7: demos of all beginnings of one list tell the same behind every tick that both have.
func TestBeginnings(t *testing.T) {
	d := dice(521288629)
	for range rounds(2) {
		for _, b := range boards(t) {
			l := d.match(t, b, 100)
			whole := recorded(t, b, l...)
			states := all(t, whole)
			for end := range len(l) + 1 {
				x := recorded(t, b, l[:end]...)
				for n := range x.Ticks() + 1 {
					wantSeek(t, x, n, states[n])
				}
				wantNoSeek(t, x, x.Ticks()+1)
				wantLabels(t, x, l[:end]...)
				if keys := whole.Keys(); !slices.Equal(x.Keys(), keys[:x.Ticks()/32+1]) {
					t.Fatalf("%d ticks: keyframes at %v", x.Ticks(), x.Keys())
				}
			}
		}
	}
}

// 26.7: two lists that part at a place tell the same behind every tick ahead of it.
func TestParting(t *testing.T) {
	d := dice(77)
	for range rounds(40) {
		b := pick(&d, boards(t)...)
		l := d.match(t, b, 120)
		at := d.below(len(l) + 1)
		m := slices.Clone(l[:at])
		for s := ran(t, b, m...); len(m) < 120; s = ran(t, b, m...) {
			m = append(m, d.label(s, 5))
		}
		one, other := recorded(t, b, l...), recorded(t, b, m...)
		for n, s := range all(t, recorded(t, b, l[:at]...)) {
			wantSeek(t, one, uint64(n), s)
			wantSeek(t, other, uint64(n), s)
		}
	}
}

// What the keyframes are for: looking at late ticks plays no match from its beginning.
func TestSeekIsQuick(t *testing.T) {
	if testing.Short() {
		t.Skip("a long match")
	}
	b := parsed(t, yard)
	l := []api.Label{joinOf(0, "ann"), joinOf(1, "bob"), joinOf(2, "carl")}
	for range 30000 {
		l = append(l, tickOf(api.Intent{Player: 1, Throttle: 100, Turn: 1, Fire: true}))
	}
	begun := time.Now()
	d := recorded(t, b, l...)
	once := time.Since(begun)
	begun = time.Now()
	for n := range uint64(500) {
		if s, e := d.Seek(30000 - n); e != api.OK || s.Tick != 30000-n {
			t.Fatalf("Seek(%d): %+v, %v", 30000-n, s, e)
		}
	}
	if took := time.Since(begun); took > 20*once+time.Second {
		t.Errorf("500 late ticks took %v, all ticks once %v", took, once)
	}
}
