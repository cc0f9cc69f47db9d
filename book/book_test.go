package book_test

import (
	"encoding/binary"
	"slices"
	"strings"
	"testing"

	"joust/api"
	"joust/board"
	"joust/book"
)

// example is chapter 17's board.
const example = "#####\n#S.E#\n#...#\n#A.S#\n#####\n"

func parsed(t *testing.T, text string) *board.Board {
	t.Helper()
	b, e := board.Parse(text)
	if e != api.OK {
		t.Fatalf("Parse(%q): %v", text, e)
	}
	return b
}

func eight(x uint64) string { return string(binary.BigEndian.AppendUint64(nil, x)) }

func head(kind byte) string { return "J01" + string([]byte{kind}) }

var (
	nonce = strings.Repeat("n", 16)
	tag32 = strings.Repeat("t", 32)
)

// The datagrams of a ledger, byte by byte as R3 has them.

func connectOf(name string) string {
	return head(3) + nonce + eight(1) + strings.Repeat("c", 32) + string([]byte{byte(len(name))}) + name + tag32
}

func commandOf(session, seq uint64, throttle, turn int8, flags byte) string {
	return head(5) + eight(session) + eight(seq) + string([]byte{byte(throttle), byte(turn), flags}) + tag32
}

func byeOf(session, seq uint64) string { return head(7) + eight(session) + eight(seq) + tag32 }

// others gives datagrams of all kinds but one, which say a name, a session and a seq wherever they can; and texts that are no datagrams, most of them nearly one of that kind.
func others(kind byte, name string, session, seq uint64) []string {
	list := []string{
		head(1) + nonce + strings.Repeat("\x00", 76),
		head(2) + nonce + eight(1) + tag32,
		connectOf(name),
		head(4) + nonce + eight(session) + "\x00" + nonce + tag32,
		commandOf(session, seq, 0, 0, 0),
		head(6) + eight(session) + eight(seq) + tag32,
		byeOf(session, seq),
	}
	right := list[kind-1]
	list = slices.Delete(list, int(kind)-1, int(kind))
	list = append(list, right[:len(right)-1], right+"t", "x"+right[1:], right[:3]+"\x00"+right[4:], right[:3]+"\x08"+right[4:])
	list = append(list, right[:3], right[:4], right+strings.Repeat("t", 1201-len(right)), " ", "\x00", "any bytes", strings.Repeat("J", 70000))
	return append(list, commandOf(session, seq, 0, 0, 4))
}

// The entries of the chapter's examples. A session's source hangs on its name.

func joinOf(session uint64, player int, name string) api.Entry {
	return api.Entry{Kind: api.LbJoin, Session: session, Player: player, Name: name, From: "from " + name, Data: connectOf(name)}
}

// of gives an entry of the session that a join began.
func of(join api.Entry, kind int, seq uint64, data string) api.Entry {
	join.Kind, join.Seq, join.Data = kind, seq, data
	return join
}

func command(join api.Entry, seq uint64) api.Entry {
	return of(join, api.LbCommand, seq, commandOf(join.Session, seq, 127, -20, 0))
}

func idle(join api.Entry) api.Entry { return of(join, api.LbLeave, 0, "") }

func bye(join api.Entry, seq uint64) api.Entry {
	return of(join, api.LbLeave, seq, byeOf(join.Session, seq))
}

func tick() api.Entry { return api.Entry{Kind: api.LbTick} }

// counted gives a ledger of entries, each with the number of ticks ahead of it.
func counted(list ...api.Entry) []api.Entry {
	l := slices.Clone(list)
	n := uint64(0)
	for i := range l {
		l[i].Tick = n
		if l[i].Kind == api.LbTick {
			n++
		}
	}
	return l
}

// The labels.

func joined(player int, name string) api.Label {
	return api.Label{Kind: api.LbJoin, Player: player, Name: name}
}

func left(player int) api.Label { return api.Label{Kind: api.LbLeave, Player: player} }

func ticked(intents ...api.Intent) api.Label { return api.Label{Kind: api.LbTick, Intents: intents} }

// full is what the examples' command asks for.
func full(player int) api.Intent { return api.Intent{Player: player, Throttle: 100, Turn: -8} }

func sameLabel(a, b api.Label) bool {
	return a.Kind == b.Kind && a.Player == b.Player && a.Name == b.Name && slices.Equal(a.Intents, b.Intents)
}

func sameLabels(a, b []api.Label) bool { return slices.EqualFunc(a, b, sameLabel) }

func wantLabels(t *testing.T, l []api.Entry, want ...api.Label) {
	t.Helper()
	if got, e := book.Labels(l); e != api.OK || !sameLabels(got, want) {
		t.Fatalf("Labels(%+v) = %+v, %v, want %+v", l, got, e, want)
	}
}

// wantLast asks that a ledger is refused for its last entry: without it, it is none that is refused.
func wantLast(t *testing.T, l []api.Entry) {
	t.Helper()
	if _, e := book.Labels(l[:len(l)-1]); e != api.OK {
		t.Fatalf("%v ahead of the last one of %+v", e, l)
	}
	wantRefused(t, l)
}

func wantRefused(t *testing.T, l []api.Entry) {
	t.Helper()
	if got, e := book.Labels(l); e != api.ErrLedger || len(got) != 0 {
		t.Fatalf("Labels(%+v) = %+v, %v, want ErrLedger", l, got, e)
	}
}

// dice give numbers that look like chance and are the same in every run.
type dice uint64

func (d *dice) word() uint64 {
	*d ^= *d << 13
	*d ^= *d >> 7
	*d ^= *d << 17
	return uint64(*d) * 0x2545f4914f6cdd1d
}

func (d *dice) below(n int) int { return int(d.word() >> 20 % uint64(n)) }

func (d *dice) one(n int) bool { return d.below(n) == 0 }

func (d *dice) bytes(n int) string {
	b := make([]byte, n)
	for i := range b {
		b[i] = byte(d.word() >> 30)
	}
	return string(b)
}

func some[T any](d *dice, list ...T) T { return list[d.below(len(list))] }
