package referee_test

import (
	"crypto/hmac"
	"crypto/sha256"
	"encoding/binary"
	"fmt"
	"slices"
	"strings"
	"testing"

	"joust/api"
	"joust/referee"
)

const (
	yard = "#####\n#S.E#\n#...#\n#A.S#\n#####\n"
	pen  = "####\n#SS#\n####\n"
)

func rep(s string, n int) string { return strings.Repeat(s, n) }

// config is the examples' one.
func config() api.Config {
	return api.Config{Sessions: 2, Output: 8, Rate: 16, Burst: 3, SourceRate: 1, SourceBurst: 2, Idle: 10, Life: 5, Radius: 20, Show: 4, Seed: rep("s", 32), Board: yard, Accounts: []api.Account{
		{Name: "ann", Secret: rep("a", 32)}, {Name: "bob", Secret: rep("b", 32)},
	}}
}

// wide has more players, who may say more, and are soon idle.
func wide() api.Config {
	c := config()
	c.Sessions, c.Rate, c.Burst, c.Idle = 4, 1000, 1000, 3
	c.Accounts = append(c.Accounts, api.Account{Name: "carl", Secret: rep("c", 32)}, api.Account{Name: "D\u00f6ra", Secret: rep("d", 32)}, api.Account{Name: "fay", Secret: rep("f", 32)})
	return c
}

func eight(n uint64) string { return string(binary.BigEndian.AppendUint64(nil, n)) }

// tagged lays the tag under a key behind some bytes.
func tagged(body, key string) string {
	h := hmac.New(sha256.New, []byte(key))
	h.Write([]byte(body))
	return string(h.Sum([]byte(body)))
}

func connectOf(name, secret string) string {
	return tagged("J01\x03a nonce of bytes"+eight(1)+rep("c", 32)+string([]byte{byte(len(name))})+name, secret)
}

func commandOf(session, seq uint64, key string) string {
	return tagged("J01\x05"+eight(session)+eight(seq)+"\x64\x03\x01", key)
}

func byeOf(session, seq uint64, key string) string {
	return tagged("J01\x07"+eight(session)+eight(seq), key)
}

// keyOf is what keys tells of a session.
func keyOf(session uint64) string { return fmt.Sprintf("%032d", session) }

func keys(session uint64) (string, bool) { return keyOf(session), true }

// secretOf is that of wide's account of a name; all are sealed by some secret.
func secretOf(name string) string {
	for _, a := range wide().Accounts {
		if folded(a.Name) == folded(name) {
			return a.Secret
		}
	}
	return rep("?", 32)
}

// join comes from a source that is called after the name.
func join(session uint64, player int, name string) api.Entry {
	return api.Entry{Kind: api.LbJoin, Session: session, Player: player, Name: name, From: "home of " + name, Data: connectOf(name, secretOf(name))}
}

// of is another entry of a session that a join began.
func of(j api.Entry, kind int, seq uint64, data string) api.Entry {
	j.Kind, j.Tick, j.Seq, j.Data = kind, 0, seq, data
	return j
}

func command(j api.Entry, seq uint64) api.Entry {
	return of(j, api.LbCommand, seq, commandOf(j.Session, seq, keyOf(j.Session)))
}

func bye(j api.Entry, seq uint64) api.Entry {
	return of(j, api.LbLeave, seq, byeOf(j.Session, seq, keyOf(j.Session)))
}

func idle(j api.Entry) api.Entry { return of(j, api.LbLeave, 0, "") }

func tick() api.Entry { return api.Entry{Kind: api.LbTick} }

func ticks(n int) []api.Entry { return slices.Repeat([]api.Entry{tick()}, n) }

// list lays entries and lists of entries behind one another.
func list(parts ...any) []api.Entry {
	var l []api.Entry
	for _, p := range parts {
		switch p := p.(type) {
		case api.Entry:
			l = append(l, p)
		case []api.Entry:
			l = append(l, p...)
		}
	}
	return l
}

// ledger has in each entry how many ticks are ahead of it.
func ledger(parts ...any) []api.Entry {
	l := list(parts...)
	n := uint64(0)
	for i := range l {
		l[i].Tick = n
		if l[i].Kind == api.LbTick {
			n++
		}
	}
	return l
}

// wantFound asks for the first entry at fault; a code of api.OK asks that there is none.
func wantFound(t *testing.T, c api.Config, l []api.Entry, entry int, code api.Errno) {
	t.Helper()
	want := api.Finding{Entry: entry, Code: code}
	if code == api.OK {
		want = api.Finding{}
	}
	if f, is := referee.Judge(c, keys, l); f != want || is != (code != api.OK) {
		t.Errorf("%d entries: %+v, %v, want %+v", len(l), f, is, want)
	}
}

// wantWell asks that there is nothing at fault.
func wantWell(t *testing.T, c api.Config, l []api.Entry) {
	t.Helper()
	wantFound(t, c, l, 0, api.OK)
}

// wantLast asks that the last entry is at fault, and that nothing is without it.
func wantLast(t *testing.T, c api.Config, l []api.Entry, code api.Errno) {
	t.Helper()
	wantWell(t, c, l[:len(l)-1])
	wantFound(t, c, l, len(l)-1, code)
}

// The chapter's first example.
func TestExampleTicks(t *testing.T) {
	wantWell(t, config(), nil)
	wantWell(t, config(), []api.Entry{})
	c := config()
	c.Sessions = 0
	wantFound(t, c, nil, -1, api.ErrConfig)
	wantWell(t, config(), ledger(tick()))
	wantFound(t, config(), []api.Entry{{Kind: api.LbTick, Tick: 1}}, 0, api.ErrLedger)
}

// The second one.
func TestExampleCommands(t *testing.T) {
	j := join(1, 0, "ann")
	wantWell(t, config(), ledger(j, command(j, 1), tick()))
	wantFound(t, config(), ledger(command(j, 1)), 0, api.ErrSession)
	wantFound(t, config(), ledger(j, command(j, 1), command(j, 2), tick()), 2, api.ErrExcess)
	wantFound(t, config(), ledger(j, command(j, 65)), 1, api.ErrFar)
	wantFound(t, config(), ledger(j, command(j, 1), tick(), command(j, 1)), 3, api.ErrSeen)
}

// The third one.
func TestExampleJoins(t *testing.T) {
	wantFound(t, config(), ledger(join(1, 0, "eve")), 0, api.ErrAccount)
	j := join(1, 0, "ann")
	other := j
	other.Data = connectOf("ann", rep("b", 32))
	wantFound(t, config(), ledger(other), 0, api.ErrTag)
	wantFound(t, config(), ledger(j, join(2, 1, "Ann")), 1, api.ErrTaken)
	wantFound(t, config(), ledger(join(2, 0, "ann")), 0, api.ErrLedger)
}

// The fourth one.
func TestExampleIdle(t *testing.T) {
	j := join(1, 0, "ann")
	wantWell(t, config(), ledger(j, ticks(10)))
	wantFound(t, config(), ledger(j, ticks(11)), 11, api.ErrLedger)
	wantWell(t, config(), ledger(j, ticks(10), idle(j), tick()))
}

// The fifth one.
func TestExampleSessions(t *testing.T) {
	j := join(1, 0, "ann")
	wantSessions(t, ledger(j, tick(), command(j, 1), join(2, 1, "bob")), map[uint64][]int{1: {0, 2}, 2: {3}})
}

// Idle leaves stand by their numbers, whatever players they are; a session that is overdue and neither leaves nor speaks lets the tick be at fault.
func TestHardIdleLeaves(t *testing.T) {
	one, two, three := join(1, 0, "ann"), join(2, 1, "bob"), join(3, 2, "carl")
	began := list(one, two, three, ticks(3))
	wantWell(t, wide(), ledger(began, idle(one), idle(two), idle(three), tick()))
	for _, l := range [][]api.Entry{{idle(two)}, {idle(three)}, {idle(one), idle(three)}, {idle(one), idle(two), idle(two)}} {
		last := api.ErrLedger
		if len(l) == 3 {
			last = api.ErrSession
		}
		wantLast(t, wide(), ledger(began, l), last)
	}
	for _, l := range [][]api.Entry{{tick()}, {idle(one), tick()}, {idle(one), idle(two), tick()}, {command(one, 1), command(two, 1), tick()}, {command(two, 1), idle(one), tick()}} {
		wantLast(t, wide(), ledger(began, l), api.ErrLedger)
	}
	// A player's number says nothing of a session's: the third one is player 0.
	three = join(3, 0, "ann")
	began = list(one, two, bye(one, 1), three, ticks(3))
	wantWell(t, wide(), ledger(began, idle(two), idle(three), tick()))
	wantLast(t, wide(), ledger(began, idle(three)), api.ErrLedger)
}

// A command of a session that is overdue, ahead of the tick, saves it; so does none of another one, nor a bye of its own.
func TestHardSaved(t *testing.T) {
	one, two := join(1, 0, "ann"), join(2, 1, "bob")
	began := list(one, two, ticks(3))
	wantWell(t, wide(), ledger(began, command(one, 1), command(two, 1), ticks(3)))
	wantLast(t, wide(), ledger(began, command(one, 1), command(two, 1), ticks(4)), api.ErrLedger)
	wantWell(t, wide(), ledger(began, command(one, 1), idle(two), ticks(3), idle(one), tick()))
	wantLast(t, wide(), ledger(began, command(one, 1), idle(one)), api.ErrLedger)
	wantWell(t, wide(), ledger(began, bye(one, 1), idle(two), tick()))
	wantWell(t, wide(), ledger(began, bye(one, 1), bye(two, 1), tick()))
	wantLast(t, wide(), ledger(began, bye(one, 1), tick()), api.ErrLedger)
}

// Behind a leave by idleness come others, and the tick; nothing else, even if it would do elsewhere.
func TestHardBehindIdle(t *testing.T) {
	one, two, three := join(1, 0, "ann"), join(2, 1, "bob"), join(3, 0, "carl")
	began := list(one, ticks(1), two, ticks(2))
	for _, x := range []api.Entry{three, command(two, 1), bye(two, 1)} {
		wantLast(t, wide(), ledger(began, idle(one), x), api.ErrLedger)
		wantWell(t, wide(), ledger(began, idle(one), tick(), x))
	}
	wantWell(t, wide(), ledger(began, idle(one)))
	// Behind a bye all may come.
	wantWell(t, wide(), ledger(one, two, bye(one, 1), command(two, 1), three, bye(two, 2), tick()))
}

// What is no kind at all is at fault behind a leave by idleness as elsewhere.
func TestHardNoKind(t *testing.T) {
	one := join(1, 0, "ann")
	for _, kind := range []int{0, 5, -1, 255, 257, 1<<32 + 3, -1 << 63, 1<<63 - 1} {
		x := tick()
		x.Kind = kind
		wantLast(t, wide(), ledger(one, ticks(3), idle(one), x), api.ErrLedger)
		for _, x := range []api.Entry{x, of(one, kind, 1, command(one, 1).Data), of(one, kind, 0, one.Data), of(one, kind, 1, bye(one, 1).Data), of(one, kind, 0, "")} {
			wantLast(t, wide(), ledger(x), api.ErrLedger)
			wantLast(t, wide(), ledger(one, ticks(3), x), api.ErrLedger)
		}
	}
}

// Player is judged behind tags and numbers.
func TestHardPlayer(t *testing.T) {
	j := join(1, 0, "ann")
	x := command(j, 1)
	x.Player = 5
	wantLast(t, config(), ledger(j, x), api.ErrLedger)
	x.Data = commandOf(1, 1, keyOf(2))
	wantLast(t, config(), ledger(j, x), api.ErrTag)
	x = command(j, 0)
	x.Player = 5
	wantLast(t, config(), ledger(j, x), api.ErrOld)
}

// A join with the right seal, but another number: ErrLedger; where the lobby is full too: ErrFull.
func TestHardNumber(t *testing.T) {
	began := list(join(1, 0, "ann"), join(2, 1, "bob"))
	wantLast(t, wide(), ledger(began, join(7, 2, "carl")), api.ErrLedger)
	c := wide()
	c.Sessions = 2
	wantLast(t, c, ledger(began, join(7, 2, "carl")), api.ErrFull)
	wantWell(t, wide(), ledger(began, join(3, 2, "carl")))
}

// A bucket of Rate 0 and Burst 1 is one command, ever, for each session.
func TestHardOneCommand(t *testing.T) {
	c := wide()
	c.Rate, c.Burst, c.Idle = 0, 1, 100000
	one, two := join(1, 0, "ann"), join(2, 0, "ann")
	l := list(one, command(one, 3), ticks(500))
	wantWell(t, c, ledger(l))
	wantLast(t, c, ledger(l, command(one, 4)), api.ErrRate)
	wantWell(t, c, ledger(l, bye(one, 4), two, command(two, 1), ticks(40)))
	wantLast(t, c, ledger(l, bye(one, 4), two, command(two, 1), ticks(40), command(two, 2)), api.ErrRate)
}
