package demo_test

import (
	"math/bits"
	"strings"
	"testing"

	"joust/api"
	"joust/board"
	"joust/demo"
)

// wantPlain asks that a text is read just if the plain reading takes it, and then of the same labels; it tells whether it is.
func wantPlain(t *testing.T, b *board.Board, s string) bool {
	t.Helper()
	l, is := plainRead(b, s)
	if is {
		wantRead(t, b, s, l...)
	} else {
		wantUnread(t, "by the plain reading", b, s)
	}
	return is
}

// count lays four bytes ahead of labels that are written by hand, and head and sum about them.
func count(b *board.Board, n uint32, labels string) string {
	return summed("JD01" + plainHead(b) + string([]byte{byte(n >> 24), byte(n >> 16), byte(n >> 8), byte(n)}) + labels)
}

const (
	joinA = "\x01\x00\x00\x00\x00\x01a"
	joinB = "\x01\x05\x00\x00\x00\x03bob"
	still = "\x03\x00"
)

// 26.5: each fault of the form by itself, behind which the sum is right.
func TestFaults(t *testing.T) {
	b := parsed(t, example)
	good := count(b, 2, joinA+still)
	wantRead(t, b, good, joinOf(0, "a"), tickOf())
	body := good[:len(good)-32]
	for what, s := range map[string]string{
		"another head":                      summed("JD02" + body[4:]),
		"a head of another kind":            summed("JB01" + body[4:]),
		"a head in small letters":           summed("jd01" + body[4:]),
		"no head":                           summed(body[4:]),
		"a byte ahead":                      summed("\x00" + body),
		"another board's sum":               summed("JD01" + strings.Repeat("\x00", 32) + body[36:]),
		"the board's sum by one bit":        summed(body[:35] + string([]byte{body[35] ^ 1}) + body[36:]),
		"no board's sum":                    summed("JD01" + body[36:]),
		"one label too few is said":         count(b, 1, joinA+still),
		"one label too many is said":        count(b, 3, joinA+still),
		"256 labels too many are said":      count(b, 258, joinA+still),
		"all labels that can be are said":   count(b, 1<<32-1, joinA+still),
		"no labels are said":                count(b, 0, joinA+still),
		"no bytes behind the count":         count(b, 1, ""),
		"a byte behind the labels":          count(b, 2, joinA+still+"\x00"),
		"a label behind the labels":         count(b, 2, joinA+still+still),
		"bytes behind the labels":           count(b, 2, joinA+still+strings.Repeat("x", 32)),
		"a sum behind the labels":           summed(good),
		"a count of three bytes":            summed("JD01" + plainHead(b) + "\x00\x00\x02" + joinA + still),
		"a kind of 0":                       count(b, 2, joinA+"\x00\x00"),
		"a kind of 4":                       count(b, 2, joinA+"\x04\x00"),
		"a kind of 255":                     count(b, 2, joinA+"\xff\x00"),
		"a kind of 131":                     count(b, 2, joinA+"\x83\x00"),
		"a kind alone":                      count(b, 2, joinA+"\x03"),
		"a join without a player":           count(b, 2, joinA+"\x01"),
		"a join without a name's length":    count(b, 2, joinA+"\x01\x01"),
		"three bytes of a name's length":    count(b, 2, joinA+"\x01\x01\x00\x00\x00"),
		"a name that is short by one":       count(b, 2, joinA+"\x01\x01\x00\x00\x00\x04bob"),
		"a name that is long by one":        count(b, 2, joinA+"\x01\x01\x00\x00\x00\x02bob"),
		"a name of 2^31 - 1 bytes":          count(b, 2, joinA+"\x01\x01\x7f\xff\xff\xffbob"),
		"a name of 2^31 bytes":              count(b, 2, joinA+"\x01\x01\x80\x00\x00\x00bob"),
		"a name of 2^32 - 1 bytes":          count(b, 2, joinA+"\x01\x01\xff\xff\xff\xffbob"),
		"a name that has the sum in it":     count(b, 2, joinA+"\x01\x01\x00\x00\x00\x23bob"),
		"a leave without a player":          count(b, 2, joinA+"\x02"),
		"a leave with a name":               count(b, 2, joinA+"\x02\x00\x00\x00\x00\x00"),
		"an intent too few":                 count(b, 2, joinA+"\x03\x01"),
		"an intent too many":                count(b, 2, joinA+"\x03\x00\x00\x00\x00\x00"),
		"an intent of three bytes":          count(b, 2, joinA+"\x03\x01\x00\x00\x00"),
		"an intent of five bytes":           count(b, 2, joinA+"\x03\x01\x00\x00\x00\x00\x00"),
		"flags of 4":                        count(b, 2, joinA+"\x03\x01\x00\x00\x00\x04"),
		"flags of 7":                        count(b, 2, joinA+"\x03\x01\x00\x00\x00\x07"),
		"flags of 128":                      count(b, 2, joinA+"\x03\x01\x00\x00\x00\x80"),
		"flags of 255":                      count(b, 2, joinA+"\x03\x01\x00\x00\x00\xff"),
		"flags of 4 in the second":          count(b, 3, joinA+joinB+"\x03\x02\x00\x00\x00\x00\x05\x00\x00\x04"),
		"flags of 4 in the first":           count(b, 3, joinA+joinB+"\x03\x02\x00\x00\x00\x04\x05\x00\x00\x00"),
		"flags of 4, and a label behind it": count(b, 3, joinA+"\x03\x01\x00\x00\x00\x04"+still),
	} {
		wantUnread(t, what, b, s)
		if wantPlain(t, b, s) {
			t.Errorf("%s is read", what)
		}
	}
}

// 26.5: labels of the form that the Rulebook refuses, by each of its errors; and the same labels with the one ahead of them that makes them right.
func TestRulebookRefuses(t *testing.T) {
	b := parsed(t, example)
	for _, s := range []string{
		"\x02\x00", "\x02\x20", "\x02\xff",
		"\x01\x20\x00\x00\x00\x00", "\x01\xff\x00\x00\x00\x01x", "\x01\x80\x00\x00\x00\x00",
		"\x03\x01\x00\x00\x00\x00", "\x03\x01\xff\x00\x00\x00",
	} {
		wantUnread(t, "the Rulebook", b, count(b, 1, s))
		wantUnread(t, "the Rulebook", b, count(b, 2, s+still))
		wantUnread(t, "the Rulebook", b, count(b, 2, still+s))
	}
	for _, s := range []string{
		joinA, "\x01\x00\x00\x00\x00\x00", "\x02\x05", "\x02\x01", "\x02\x1f", "\x02\x20", "\x01\x20\x00\x00\x00\x00",
		"\x03\x01\x00\x65\x00\x00", "\x03\x01\x00\x9b\x00\x00", "\x03\x01\x00\x7f\x00\x00", "\x03\x01\x00\x80\x00\x00",
		"\x03\x01\x00\x00\x09\x00", "\x03\x01\x00\x00\xf7\x00", "\x03\x01\x00\x00\x7f\x00", "\x03\x01\x00\x00\x80\x00",
		"\x03\x01\x05\x00\x00\x00", "\x03\x02\x00\x00\x00\x00\x00\x00\x00\x00", "\x03\x02\x00\x00\x00\x00\x05\x00\x00\x00",
		"\x03\xff" + strings.Repeat("\x00\x00\x00\x00", 255),
	} {
		wantUnread(t, "the Rulebook", b, count(b, 2, joinA+s))
		wantUnread(t, "the Rulebook", b, count(b, 3, joinA+s+still))
	}
	for _, s := range []string{
		joinB, "\x02\x00", "\x03\x01\x00\x64\x08\x03", "\x03\x01\x00\x9c\xf8\x00", "\x01\x1f\x00\x00\x00\x00",
	} {
		if !wantPlain(t, b, count(b, 2, joinA+s)) || !wantPlain(t, b, count(b, 3, joinA+s+still)) {
			t.Errorf("%x is not read", s)
		}
	}
	wantRead(t, b, count(b, 3, joinB+joinA+"\x03\x02\x00\x01\x02\x01\x05\xff\xfe\x02"), joinOf(5, "bob"), joinOf(0, "a"), tickOf(api.Intent{Player: 0, Throttle: 1, Turn: 2, Fire: true}, api.Intent{Player: 5, Throttle: -1, Turn: -2, Boost: true}))
	wantUnread(t, "intents that fall", b, count(b, 3, joinB+joinA+"\x03\x02\x05\x00\x00\x00\x00\x00\x00\x00"))
}

// 26.5: several faults at once are one refusal.
func TestManyFaults(t *testing.T) {
	b, other := parsed(t, example), parsed(t, yard)
	parts := [][2]string{
		{"JD01", "JD02"},
		{plainHead(b), plainHead(other)},
		{"\x00\x00\x00\x03", "\x00\x00\x00\x04"},
		{"\x01", "\x00"},
		{"\x00\x00\x00\x00\x01a", "\x20\x00\x00\x00\x01a"},
		{"\x03\x01\x00\x00\x00\x03", "\x03\x01\x00\x00\x00\x04"},
		{"\x03\x01\x00\x64\x00\x03", "\x03\x01\x00\x65\x00\x03"},
		{"", "\x00"},
	}
	for set := range 1 << len(parts) {
		text := ""
		for i, p := range parts {
			text += p[set>>i&1]
		}
		for i, s := range []string{summed(text), text + strings.Repeat("s", 32), summed(text) + "x", summed(text)[:len(text)+31], text} {
			if is := wantPlain(t, b, s); is != (set == 0 && i == 0) {
				t.Fatalf("the faults %08b, the end %d: read is %v", set, i, is)
			}
		}
		if bits.OnesCount(uint(set)) == 1 {
			wantUnread(t, "one fault", b, summed(text))
		}
	}
}

// samples are demos of all that a label may be: short ones, one with two keyframes, one with a long name.
func samples(t *testing.T, b *board.Board) [][]api.Label {
	t.Helper()
	d := dice(4711)
	return [][]api.Label{
		nil,
		{joinOf(0, "a"), tickOf(api.Intent{Throttle: 100}), leaveOf(0)},
		{joinOf(3, ""), joinOf(2, "\x00\x01\x02\x03"), tickOf(api.Intent{Player: 2, Turn: -8, Fire: true}, api.Intent{Player: 3, Throttle: -100, Boost: true}), tickOf(), leaveOf(3), tickOf(api.Intent{Player: 2, Fire: true, Boost: true})},
		append([]api.Label{joinOf(1, strings.Repeat("n", 300))}, ticks(33)...),
		d.match(t, b, 40),
	}
}

// stride is by how much values go on with which bytes are turned: of long texts not each is tried, and of none where there is no time.
func stride(length int) int {
	if length > 200 || testing.Short() {
		return 23
	}
	return 1
}

// 26.6: one byte turned, to each other value, is refused.
func TestTurned(t *testing.T) {
	b := parsed(t, example)
	for _, l := range samples(t, b) {
		text := plainWrite(b, l)
		by := stride(len(text))
		for i := range text {
			for x := 1; x < 256; x += by {
				wantUnread(t, "turned", b, text[:i]+string([]byte{text[i] ^ byte(x)})+text[i+1:])
			}
		}
	}
}

// 26.5, 26.6: one byte turned, to each other value, with a sum that is right: read or not as the plain reading says, and what is read is written so.
func TestTurnedAndSummed(t *testing.T) {
	b := parsed(t, example)
	read, unread := 0, 0
	for _, l := range samples(t, b) {
		body := plainBody(b, l)
		by := stride(len(body))
		for i := range body {
			for x := 1; x < 256; x += by {
				if wantPlain(t, b, summed(body[:i]+string([]byte{body[i] ^ byte(x)})+body[i+1:])) {
					read++
				} else {
					unread++
				}
			}
		}
	}
	if read < rounds(500) || unread < rounds(10000) {
		t.Errorf("%d are read, %d are not", read, unread)
	}
}

// 26.6: cut off anywhere; and cut off anywhere with the sum of what is left; and bytes behind the end, or ahead of the beginning.
func TestCut(t *testing.T) {
	b := parsed(t, example)
	for _, l := range samples(t, b) {
		text, body := plainWrite(b, l), plainBody(b, l)
		wantRead(t, b, text, l...)
		for i := range text {
			wantUnread(t, "cut", b, text[:i])
			wantUnread(t, "cut at the beginning", b, text[i+1:])
			wantUnread(t, "a byte taken out", b, text[:i]+text[i+1:])
		}
		for i := range body {
			wantPlain(t, b, summed(body[:i]))
			wantPlain(t, b, summed(body[:i]+body[i+1:]))
			for _, s := range []string{"\x00", "\x03", "\x03\x00", "x"} {
				wantPlain(t, b, summed(body[:i]+s+body[i:]))
			}
		}
		for _, s := range []string{"\x00", "\n", "x", "\x03\x00", strings.Repeat("\x00", 32), text, text[len(body):], body} {
			wantUnread(t, "behind the end", b, text+s)
			wantUnread(t, "ahead of the beginning", b, s+text)
			wantUnread(t, "summed again", b, summed(text+s))
		}
	}
}

// 26.5: any bytes, and such as have the head and the sum.
func TestAnyBytes(t *testing.T) {
	d := dice(123456789)
	b := parsed(t, example)
	read := 0
	for range rounds(40000) {
		n := d.below(pick(&d, 5, 40, 100, 400))
		labels := d.bytes(n)
		if d.one(2) { // bytes that are labels now and then
			labels = ""
			for range d.below(6) {
				labels += pick(&d, "\x01"+d.bytes(1), "\x01\x00", "\x01\x01\x00\x00\x00\x00", joinA, joinB, "\x00\x00\x00\x01", "\x02\x00", "\x02", still, "\x03\x01\x00", "\x03\x01\x00\x00\x00", "\x00", "\x64\x08\x03", d.bytes(1), "\x05")
			}
		}
		wantPlain(t, b, labels)
		wantPlain(t, b, summed(labels))
		wantPlain(t, b, summed("JD01"+plainHead(b)+labels))
		if wantPlain(t, b, count(b, uint32(d.below(5)), labels)) {
			read++
		}
	}
	if read < rounds(200) {
		t.Errorf("only %d are read", read)
	}
}

// Hard place: a demo that is read for another board is refused, also where its labels would run there.
func TestOtherBoards(t *testing.T) {
	list := boards(t)
	for i, b := range list {
		for _, l := range samples(t, list[0]) {
			text := plainWrite(b, l)
			for k, other := range list {
				ran(t, other, l...)
				if i == k {
					wantRead(t, other, text, l...)
				} else {
					wantUnread(t, "another board", other, text)
				}
			}
		}
	}
}

// 26.6: there and back, both ways, of matches: what is read tells the same behind every tick.
func TestThereAndBack(t *testing.T) {
	d := dice(99)
	for range rounds(15) {
		for _, b := range boards(t) {
			l := d.match(t, b, 90)
			one := recorded(t, b, l...)
			other := wantRead(t, b, one.Write(), l...)
			again := recorded(t, b, other.Labels()...)
			third, e := demo.Read(b, other.Write())
			if e != api.OK {
				t.Fatal(e)
			}
			for n, s := range all(t, one) {
				wantSeek(t, other, uint64(n), s)
				wantSeek(t, again, uint64(n), s)
				wantSeek(t, third, uint64(n), s)
			}
			wantNoSeek(t, other, other.Ticks()+1)
		}
	}
}
