package snap_test

import (
	"math"
	"testing"

	"joust/api"
	"joust/board"
	"joust/frame"
	"joust/rule"
	"joust/snap"
	"joust/view"
)

// example is the chapter's v.
func example() api.View {
	return api.View{Tick: 258, Own: api.Car{Player: 1, Name: "ab", At: api.Vec{X: 65536, Y: -1}, Health: 100}, Seen: []api.Seen{{Kind: 2, Id: 7, At: api.Vec{X: 0, Y: 65536}}}}
}

func zeros(n int) string { return rep("\x00", n) }

// exampleBytes are its bytes as example 1 tells them.
func exampleBytes() string {
	return "\x00\x00\x00\x00\x00\x00\x01\x02" + "\x01" + "\x02ab" + "\x00\x00\x00\x00\x00\x01\x00\x00" + rep("\xff", 8) + zeros(16) + zeros(8) + zeros(7) + "\x64" + zeros(48) +
		"\x01" + "\x02" + zeros(7) + "\x07" + zeros(8) + "\x00\x00\x00\x00\x00\x01\x00\x00" + "\x00"
}

// Examples 1 and 2.
func TestExampleBytes(t *testing.T) {
	s, e := snap.Write(example())
	if e != api.OK || s != exampleBytes() || len(s) != 135 {
		t.Errorf("Write: %d bytes %x, %v", len(s), s, e)
	}
	if v, e := snap.Read(exampleBytes()); e != api.OK || !same(v, example()) {
		t.Errorf("Read: %+v, %v", v, e)
	}
	wantUnread(t, "134 bytes", exampleBytes()[:134], api.ErrShort)
	wantUnread(t, "a byte more", exampleBytes()+"\x00", api.ErrRange)
	wantUnread(t, "none", "", api.ErrShort)
}

// Example 3, with the tag as another program makes it.
func TestExampleSealed(t *testing.T) {
	s, e := snap.Make(3, 4, example(), "k")
	body := "J01\x06" + zeros(7) + "\x03" + zeros(7) + "\x04" + exampleBytes()
	if e != api.OK || len(s) != 187 || s != body+plainTag("k", body) {
		t.Errorf("Make: %d bytes %x, %v", len(s), s, e)
	}
	if session, seq, v, e := snap.Open(s, "k"); session != 3 || seq != 4 || !same(v, example()) || e != api.OK {
		t.Errorf("Open: %d, %d, %+v, %v", session, seq, v, e)
	}
	wantUnopened(t, "another key", s, "l", api.ErrTag)
	wantUnopened(t, "none", "", "k", api.ErrMagic)
	bye, e := frame.Seal(api.Datagram{Kind: api.KdBye, Session: 3, Seq: 4}, "k")
	if e != api.OK {
		t.Fatal(e)
	}
	wantUnopened(t, "a bye", bye, "k", api.ErrKind)
}

// Example 4.
func TestExamplePlayer(t *testing.T) {
	for _, player := range []int{256, -1} {
		v := example()
		v.Own.Player = player
		wantRefused(t, "a player", v)
	}
}

// Hard places: no name, nobody seen; the view has no bytes but zeros then, if it is the zero one.
func TestEmptyView(t *testing.T) {
	for _, v := range []api.View{{}, {Seen: []api.Seen{}}, {Seen: make([]api.Seen, 0, 5)}} {
		if s := wantWritten(t, v); s != zeros(107) {
			t.Errorf("%x", s)
		}
		if s := wantMade(t, 0, 0, v, ""); len(s) != 159 {
			t.Errorf("%d bytes", len(s))
		}
	}
	d := dice(1)
	if s := wantWritten(t, d.view(0, 0)); len(s) != 107 {
		t.Errorf("%d bytes", len(s))
	}
	if s := wantMade(t, 1, 2, d.view(0, 0), "k"); len(s) != 159 {
		t.Errorf("%d bytes", len(s))
	}
}

// Hard places: 255 that are seen are written, and are too many for a snapshot; 256 are not written.
func TestManySeen(t *testing.T) {
	d := dice(2)
	v := d.view(3, 255)
	if s := wantWritten(t, v); len(s) != 107+3+26*255 {
		t.Errorf("%d bytes", len(s))
	}
	if s, e := snap.Make(1, 2, v, "k"); e != api.ErrLength || s != "" {
		t.Errorf("255 are seen: Make: %d bytes, %v", len(s), e)
	}
	wantRefused(t, "256 are seen", d.view(3, 256))
}

// Hard places: numbers that no arena has.
func TestOddNumbers(t *testing.T) {
	v := example()
	v.Tick = math.MaxUint64
	v.Own.Health, v.Own.Heading = -5, 1<<40
	v.Seen[0].Kind, v.Seen[0].Heading = 0, 255
	if back, e := snap.Read(wantWritten(t, v)); e != api.OK || back.Own.Health != -5 || back.Own.Heading != 1<<40 || back.Tick != 1<<64-1 {
		t.Errorf("%+v, %v", back, e)
	}
	wantMade(t, 1, 2, v, "k")
	v.Seen[0].Heading = 256
	wantRefused(t, "a heading", v)
}

// Hard places: a sealed snapshot whose data are no view.
func TestSealedButNoView(t *testing.T) {
	s := exampleBytes()
	for _, x := range []struct {
		data string
		want api.Errno
	}{{"", 50}, {"short", 50}, {s[:134], 50}, {s + "x", 51}, {zeros(106), 50}, {zeros(108), 51}, {zeros(1148), 51}, {rep("\xff", 1148), 50}} {
		data := plainSnapshot(3, 4, x.data, "k")
		wantUnopened(t, "no view", data, "k", x.want)
		wantUnopened(t, "no view, another key", data, "l", api.ErrTag)
	}
}

// P22.3 (P0.4): the views of a match are opened as they are.
func TestViewsOfAMatch(t *testing.T) {
	b, e := board.Parse("##########\n#S..S..S.#\n#...E....#\n#S..A..S.#\n##########\n")
	if e != api.OK {
		t.Fatal(e)
	}
	d := dice(31)
	s := rule.Empty()
	step := func(l api.Label) {
		if s, e = rule.Step(b, s, l); e != api.OK {
			t.Fatal(e)
		}
	}
	for i := range 6 {
		step(api.Label{Kind: api.LbJoin, Player: i, Name: []string{"ann", "bob", "\u03b1-\u00e9", "x", "y_", "Zed"}[i]})
	}
	most := 0
	for tick := range uint64(300) {
		var intents []api.Intent
		for i := range 6 {
			intents = append(intents, api.Intent{Player: i, Throttle: d.below(201) - 100, Turn: d.below(17) - 8, Fire: d.one(2), Boost: d.one(3)})
		}
		step(api.Label{Kind: api.LbTick, Intents: intents})
		for _, v := range view.All(s, 1024, 32) {
			data := wantMade(t, uint64(v.Own.Player)+1, tick+1, v, v.Own.Name+"'s key")
			if session, seq, back, e := snap.Open(data, v.Own.Name+"'s key"); e != api.OK || session != uint64(v.Own.Player)+1 || seq != tick+1 || !view.Equal(back, v) {
				t.Fatalf("%+v, %v, want %+v", back, e, v)
			}
			most = max(most, len(v.Seen))
		}
	}
	if most < 8 {
		t.Errorf("at most %d were seen: the match is too dull", most)
	}
}
