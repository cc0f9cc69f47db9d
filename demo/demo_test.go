package demo_test

import (
	"slices"
	"strings"
	"testing"
	"time"

	"joust/api"
	"joust/board"
	"joust/demo"
	"joust/rule"
)

const (
	// example is chapter 17's board.
	example = "#####\n#S.E#\n#...#\n#A.S#\n#####\n"
	// yard has room to fly, walls inside, and six spawns.
	yard = "##########\n#S.......#\n#..##..E.#\n#..##..A.#\n#S......S#\n#EEAA....#\n#....#...#\n#S...#.SS#\n##########\n"
)

func parsed(t *testing.T, text string) *board.Board {
	t.Helper()
	b, e := board.Parse(text)
	if e != api.OK {
		t.Fatalf("Parse(%q): %v", text, e)
	}
	return b
}

func joinOf(player int, name string) api.Label {
	return api.Label{Kind: api.LbJoin, Player: player, Name: name}
}

func leaveOf(player int) api.Label { return api.Label{Kind: api.LbLeave, Player: player} }

func tickOf(intents ...api.Intent) api.Label { return api.Label{Kind: api.LbTick, Intents: intents} }

// ticks are so many without intents.
func ticks(n int) []api.Label { return slices.Repeat([]api.Label{tickOf()}, n) }

func recorded(t *testing.T, b *board.Board, l ...api.Label) *demo.Demo {
	t.Helper()
	d, e := demo.Record(b, l)
	if d == nil || e != api.OK {
		t.Fatalf("Record of %d labels: %v, %v", len(l), d, e)
	}
	return d
}

func ran(t *testing.T, b *board.Board, l ...api.Label) api.State {
	t.Helper()
	s, e := rule.Run(b, l)
	if e != api.OK {
		t.Fatalf("Run of %d labels: %v", len(l), e)
	}
	return s
}

// same compares two states thing by thing.
func same(a, b api.State) bool {
	return a.Tick == b.Tick && a.Next == b.Next && slices.Equal(a.Cars, b.Cars) && slices.Equal(a.Shots, b.Shots)
}

func zero(s api.State) bool {
	return s.Tick == 0 && s.Next == 0 && len(s.Cars) == 0 && len(s.Shots) == 0
}

// wantSeek asks for the arena behind a tick.
func wantSeek(t *testing.T, d *demo.Demo, tick uint64, want api.State) {
	t.Helper()
	if s, e := d.Seek(tick); e != api.OK || !same(s, want) {
		t.Fatalf("Seek(%d) of %d: %+v, %v, want %+v", tick, d.Ticks(), s, e, want)
	}
}

func wantNoSeek(t *testing.T, d *demo.Demo, ticks ...uint64) {
	t.Helper()
	for _, tick := range ticks {
		if s, e := d.Seek(tick); e != api.ErrSeek || !zero(s) {
			t.Fatalf("Seek(%d) of %d: %+v, %v, want ErrSeek", tick, d.Ticks(), s, e)
		}
	}
}

// wantCounts asks how many ticks there are, and for which of them a keyframe is kept.
func wantCounts(t *testing.T, d *demo.Demo, ticks uint64, keys ...uint64) {
	t.Helper()
	if d.Ticks() != ticks || !slices.Equal(d.Keys(), keys) {
		t.Fatalf("%d ticks, keyframes at %v, want %d, %v", d.Ticks(), d.Keys(), ticks, keys)
	}
}

func sameLabel(a, b api.Label) bool {
	return a.Kind == b.Kind && a.Player == b.Player && a.Name == b.Name && slices.Equal(a.Intents, b.Intents)
}

func sameLabels(a, b []api.Label) bool { return slices.EqualFunc(a, b, sameLabel) }

func wantLabels(t *testing.T, d *demo.Demo, want ...api.Label) {
	t.Helper()
	if l := d.Labels(); !sameLabels(l, want) {
		t.Fatalf("labels %+v, want %+v", l, want)
	}
}

func wantNoRecord(t *testing.T, b *board.Board, want api.Errno, l ...api.Label) {
	t.Helper()
	if d, e := demo.Record(b, l); d != nil || e != want {
		t.Fatalf("Record(%+v): %v, %v, want nil, %v", l, d, e, want)
	}
}

func wantUnread(t *testing.T, what string, b *board.Board, s string) {
	t.Helper()
	if d, e := demo.Read(b, s); d != nil || e != api.ErrDemo {
		t.Fatalf("%s: Read(%q): %v, %v, want nil, ErrDemo", what, s, d, e)
	}
}

// The chapter's examples.
func TestExamples(t *testing.T) {
	b := parsed(t, example)
	d := recorded(t, b, joinOf(0, "a"), tickOf(api.Intent{Player: 0, Throttle: 100}), leaveOf(0))
	wantCounts(t, d, 1, 0)
	wantLabels(t, d, joinOf(0, "a"), tickOf(api.Intent{Throttle: 100}), leaveOf(0))
	wantSeek(t, d, 0, rule.Empty())
	car := api.Car{Name: "a", At: api.Vec{X: 790272, Y: 786432}, Speed: api.Vec{X: 3840}, Health: 100, Energy: 100, Ammo: 20}
	wantSeek(t, d, 1, api.State{Tick: 1, Cars: []api.Car{car}})
	wantNoSeek(t, d, 2)
	text := d.Write()
	if len(text) != 87 {
		t.Errorf("%d bytes are written", len(text))
	}
	again, e := demo.Read(b, text)
	if e != api.OK || again.Write() != text {
		t.Errorf("what was written is read as %v, %v", again, e)
	}
	wantNoRecord(t, b, api.ErrPlayer, leaveOf(0))
	if n := len(recorded(t, b).Write()); n != 72 {
		t.Errorf("of no labels %d bytes are written", n)
	}
	wantUnread(t, "nothing", b, "")
	wantUnread(t, "another board", parsed(t, "#####\n#S.E#\n#...#\n#..S#\n#####\n"), text)
}

// Hard place: no labels, whichever way they are none.
func TestNoLabels(t *testing.T) {
	b := parsed(t, example)
	for _, l := range [][]api.Label{nil, {}, make([]api.Label, 0, 4), ticks(2)[:0]} {
		d := recorded(t, b, l...)
		wantCounts(t, d, 0, 0)
		wantLabels(t, d)
		wantSeek(t, d, 0, rule.Empty())
		wantNoSeek(t, d, 1, 2, 31, 32, 33, 1<<63, 1<<64-1)
		text := d.Write()
		if len(text) != 72 || text != plainWrite(b, nil) {
			t.Errorf("Write: %q", text)
		}
		if again, e := demo.Read(b, text); e != api.OK || again.Ticks() != 0 || len(again.Labels()) != 0 || again.Write() != text {
			t.Errorf("Read: %v, %v", again, e)
		}
	}
}

// Hard places: what stands ahead of the first tick is seen from behind that tick on; what stands behind the last one never.
func TestAheadAndBehind(t *testing.T) {
	b := parsed(t, example)
	ahead := []api.Label{joinOf(0, "a"), joinOf(3, "b"), leaveOf(0), joinOf(1, "c")}
	behind := []api.Label{joinOf(2, "d"), leaveOf(1), leaveOf(3)}
	for _, n := range []int{1, 2, 31, 32, 33, 64} {
		l := slices.Concat(ahead, ticks(n), behind)
		d := recorded(t, b, l...)
		wantLabels(t, d, l...)
		wantSeek(t, d, 0, rule.Empty())
		first, _ := d.Seek(1)
		if len(first.Cars) != 2 || first.Cars[0].Name != "c" || first.Cars[1].Name != "b" {
			t.Fatalf("behind the first tick: %+v", first)
		}
		wantSeek(t, d, 1, ran(t, b, l[:len(ahead)+1]...))
		last := ran(t, b, l[:len(ahead)+n]...)
		wantSeek(t, d, uint64(n), last)
		if end := ran(t, b, l...); same(end, last) || len(end.Cars) != 1 {
			t.Fatalf("at the end of the list: %+v", end)
		}
		wantNoSeek(t, d, uint64(n)+1)
		if text := d.Write(); text != plainWrite(b, l) {
			t.Fatalf("Write: %q", text)
		}
	}
	// Without a tick nothing of them is ever seen.
	d := recorded(t, b, ahead...)
	wantCounts(t, d, 0, 0)
	wantLabels(t, d, ahead...)
	wantSeek(t, d, 0, rule.Empty())
	wantNoSeek(t, d, 1)
}

// Hard place: what stands right behind a keyframe's tick is not in it, but in all later ones.
func TestBehindKeyframe(t *testing.T) {
	b := parsed(t, example)
	l := slices.Concat([]api.Label{joinOf(0, "a")}, ticks(32), []api.Label{joinOf(1, "b"), leaveOf(0), joinOf(0, "c")}, ticks(33))
	d := recorded(t, b, l...)
	wantCounts(t, d, 65, 0, 32, 64)
	for tick, names := range map[uint64]string{0: "", 1: "a", 31: "a", 32: "a", 33: "cb", 63: "cb", 64: "cb", 65: "cb"} {
		s, e := d.Seek(tick)
		got := ""
		for _, c := range s.Cars {
			got += c.Name
		}
		if e != api.OK || got != names || s.Tick != tick {
			t.Errorf("behind tick %d: %+v, %v", tick, s, e)
		}
	}
}

// Hard place: a name of any bytes and any length.
func TestNames(t *testing.T) {
	b := parsed(t, example)
	for _, name := range []string{"", "\x00", "a b", "\xff\xfe", "a\xc3", "\u00e9\u4e00\U0001f697", strings.Repeat("x", 24), strings.Repeat("x", 25), strings.Repeat("n", 255), strings.Repeat("n", 256), strings.Repeat("\x80", 65535), strings.Repeat("\x00", 65536), strings.Repeat("ab", 1<<20)} {
		l := []api.Label{joinOf(4, name), tickOf(api.Intent{Player: 4, Turn: 1}), tickOf(), leaveOf(4), joinOf(5, name)}
		d := recorded(t, b, l...)
		wantLabels(t, d, l...)
		for n := range uint64(3) {
			wantSeek(t, d, n, ran(t, b, l[:[]int{0, 2, 3}[n]]...))
		}
		text := d.Write()
		if text != plainWrite(b, l) {
			t.Fatalf("a name of %d bytes is written otherwise", len(name))
		}
		again, e := demo.Read(b, text)
		if e != api.OK {
			t.Fatalf("a name of %d bytes is not read: %v", len(name), e)
		}
		wantLabels(t, again, l...)
	}
}

// A name that is long makes no tick slow, and no keyframe great (which would need some 20 GB here).
func TestLongNames(t *testing.T) {
	if testing.Short() {
		t.Skip("long names")
	}
	b := parsed(t, example)
	name := strings.Repeat("long", 1<<24)
	begun := time.Now()
	d := recorded(t, b, append([]api.Label{joinOf(0, name)}, ticks(10000)...)...)
	for _, n := range []uint64{1, 40, 9999, 10000} {
		if s, e := d.Seek(n); e != api.OK || s.Tick != n || s.Cars[0].Name != name {
			t.Errorf("behind tick %d: tick %d, %v", n, s.Tick, e)
		}
	}
	if took := time.Since(begun); took > 20*time.Second {
		t.Errorf("that took %v", took)
	}
}
