package demo_test

import (
	"encoding/hex"
	"slices"
	"strings"
	"testing"

	"joust/api"
	"joust/board"
	"joust/demo"
)

// exampleSum is the sum of chapter 17's board, as another program makes it.
const exampleSum = "375353ac1f945e6a752a0f6c1e3b79b9680db355496a18fb1887495463c8583a"

func bytesOf(t *testing.T, digits string) string {
	t.Helper()
	b, err := hex.DecodeString(strings.ReplaceAll(digits, " ", ""))
	if err != nil {
		t.Fatal(err)
	}
	return string(b)
}

// wantWritten asks that labels are written as they must be, and read back, there and back again (26.4, 26.6).
func wantWritten(t *testing.T, b *board.Board, l ...api.Label) string {
	t.Helper()
	text := recorded(t, b, l...).Write()
	if want := plainWrite(b, l); text != want {
		t.Fatalf("%+v is written %x, want %x", l, text, want)
	}
	wantRead(t, b, text, l...)
	return text
}

// wantRead asks that a text is read as a demo of labels, which says so in all that it tells.
func wantRead(t *testing.T, b *board.Board, text string, l ...api.Label) *demo.Demo {
	t.Helper()
	d, e := demo.Read(b, text)
	if d == nil || e != api.OK {
		t.Fatalf("Read(%x): %v, %v", text, d, e)
	}
	wantLabels(t, d, l...)
	want := recorded(t, b, l...)
	wantCounts(t, d, want.Ticks(), want.Keys()...)
	if d.Write() != text {
		t.Fatalf("what was read is written %x, want %x", d.Write(), text)
	}
	return d
}

// 26.4: the example's 87 bytes, and the 72 of no labels, one by one; the sums are another program's.
func TestExampleBytes(t *testing.T) {
	b := parsed(t, example)
	text := wantWritten(t, b, joinOf(0, "a"), tickOf(api.Intent{Throttle: 100}), leaveOf(0))
	if want := bytesOf(t, "4a443031"+exampleSum+"00000003"+"01 00 00000001 61"+"03 01 00 64 00 00"+"02 00"+"c556d052b4411e237edbd1766f791c5210b59f58bc4e16bf251ea66d34f533f0"); text != want {
		t.Errorf("%x, want %x", text, want)
	}
	text = wantWritten(t, b)
	if want := bytesOf(t, "4a443031"+exampleSum+"00000000"+"f79cf7c7fa8c2f40a532c247d15ab7ae778f42849fb2ac4315ca8e135f90d2e1"); text != want {
		t.Errorf("%x, want %x", text, want)
	}
}

// 26.4: each place of the form, by hand.
func TestPlaces(t *testing.T) {
	b := parsed(t, example)
	head := "JD01" + bytesOf(t, exampleSum)
	for _, x := range []struct {
		labels []api.Label
		want   string
	}{
		{[]api.Label{joinOf(31, "")}, "00000001 01 1f 00000000"},
		{[]api.Label{joinOf(9, "\x00\xff")}, "00000001 01 09 00000002 00ff"},
		{[]api.Label{joinOf(1, strings.Repeat("n", 258))}, "00000001 01 01 00000102" + strings.Repeat("6e", 258)},
		{[]api.Label{tickOf()}, "00000001 03 00"},
		{[]api.Label{tickOf(), tickOf()}, "00000002 03 00 03 00"},
		{[]api.Label{joinOf(30, "z"), leaveOf(30)}, "00000002 01 1e 00000001 7a 02 1e"},
		{[]api.Label{joinOf(30, "z"), tickOf(api.Intent{Player: 30, Throttle: -100, Turn: -8, Fire: true, Boost: true})}, "00000002 01 1e 00000001 7a 03 01 1e 9c f8 03"},
		{[]api.Label{joinOf(2, ""), joinOf(0, ""), tickOf(api.Intent{Player: 0, Throttle: 100, Turn: 8, Fire: true}, api.Intent{Player: 2, Throttle: -1, Turn: -1, Boost: true})}, "00000003 01 02 00000000 01 00 00000000 03 02 00 64 08 01 02 ff ff 02"},
	} {
		want := summed(head + bytesOf(t, x.want))
		if text := wantWritten(t, b, x.labels...); text != want {
			t.Errorf("%+v: %x, want %x", x.labels, text, want)
		}
	}
	if text := wantWritten(t, b, ticks(259)...); text[36:40] != "\x00\x00\x01\x03" {
		t.Errorf("259 labels are written as %x", text[36:40])
	}
	many := ticks(66000)
	if text := recorded(t, b, many...).Write(); text[36:40] != "\x00\x01\x01\xd0" || text != plainWrite(b, many) {
		t.Errorf("66000 labels are written as %x", text[36:40])
	}
}

// 26.4: every legal intent's throttle and turn, with each of Fire and Boost.
func TestIntents(t *testing.T) {
	b := parsed(t, example)
	for flags := range 4 {
		l := []api.Label{joinOf(17, "x")}
		for throttle := -100; throttle <= 100; throttle++ {
			for turn := -8; turn <= 8; turn++ {
				l = append(l, tickOf(api.Intent{Player: 17, Throttle: throttle, Turn: turn, Fire: flags&1 > 0, Boost: flags&2 > 0}))
			}
		}
		text := wantWritten(t, b, l...)
		if i := strings.Index(text, "\x03\x01\x11\x9c\xf8"); i < 0 || text[i+5] != byte(flags) {
			t.Errorf("flags %d are written otherwise", flags)
		}
	}
}

// 26.4: all players, each alone and all in one tick.
func TestPlayers(t *testing.T) {
	b := parsed(t, example)
	var joins, leaves []api.Label
	var all []api.Intent
	for player := range 32 {
		one := api.Intent{Player: player, Throttle: player - 16, Turn: player%17 - 8, Fire: player%2 > 0, Boost: player%3 > 0}
		wantWritten(t, b, joinOf(player, "x"), tickOf(one), leaveOf(player))
		joins, leaves, all = append(joins, joinOf(player, "x")), append(leaves, leaveOf(player)), append(all, one)
	}
	text := wantWritten(t, b, slices.Concat(joins, []api.Label{tickOf(all...)}, leaves)...)
	if text[40+32*7:][:2] != "\x03\x20" {
		t.Errorf("32 intents are written as %x", text[40+32*7:][:2])
	}
}

// 26.4, 26.6: matches, on all boards.
func TestWriteAny(t *testing.T) {
	d := dice(22971825)
	for range rounds(60) {
		for _, b := range boards(t) {
			wantWritten(t, b, d.match(t, b, d.below(80))...)
		}
	}
}

// 26.4: the board's sum is that of its Print: texts that are one board are one.
func TestBoardSum(t *testing.T) {
	l := []api.Label{joinOf(0, "x"), tickOf()}
	texts := []string{"###\n#S#\n###\n", "###\n#S#\n###", "SSS\nSSS\nSSS", "\u2588##\n#S \n###", "A.E\n.S.\n###"}
	want := plainWrite(parsed(t, texts[0]), l)
	for _, s := range texts {
		b := parsed(t, s)
		if text := recorded(t, b, l...).Write(); text != want {
			t.Errorf("%q: %x", s, text)
		}
		wantRead(t, b, want, l...)
	}
}
