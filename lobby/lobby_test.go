package lobby_test

import (
	"math"
	"slices"
	"strings"
	"testing"

	"joust/api"
	"joust/lobby"
	"joust/mac"
)

// lobbies are what a lobby and a plain list of sessions can be asked alike.
type lobbies interface {
	Secret(name string) (string, bool)
	Join(from, nonce, salt, name string, tick uint64) (api.Live, api.Errno)
	Next() uint64
	Key(session uint64) (string, bool)
	Find(session uint64, from string) (api.Live, api.Errno)
	Check(session, seq uint64) api.Errno
	Token(session uint64) bool
	Accept(session, seq uint64, command bool, tick uint64) api.Errno
	Leave(session uint64) (api.Live, api.Errno)
	Expire(tick uint64) []api.Live
	Refill()
	Sent(session uint64) (uint64, api.Errno)
	Lives() []api.Live
}

// secret has 32 times a letter.
func secret(letter string) string { return strings.Repeat(letter, 32) }

// config is the examples' one.
func config() api.Config {
	return api.Config{Sessions: 2, Rate: 8, Burst: 2, Idle: 3, Accounts: []api.Account{{Name: "ann", Secret: secret("a")}, {Name: "bob", Secret: secret("b")}, {Name: "cy", Secret: secret("c")}}}
}

// begun is a lobby of a configuration that may be.
func begun(t *testing.T, c api.Config) *lobby.Lobby {
	t.Helper()
	l, e := lobby.New(c)
	if l == nil || e != api.OK {
		t.Fatalf("New(%+v): %v", c, e)
	}
	return l
}

// joined is a lobby of the examples' accounts for three sessions, in which these names play, from "x", since tick 7: so their sessions are 1, 2, 3 ..
func joined(t *testing.T, names ...string) *lobby.Lobby {
	t.Helper()
	c := config()
	c.Sessions = 3
	l := begun(t, c)
	for i, name := range names {
		wantJoin(t, l, "x", name, 7, api.Live{Session: uint64(i + 1), Player: i, Name: name, From: "x", Heard: 7}, api.OK)
	}
	return l
}

func wantJoin(t *testing.T, l lobbies, from, name string, tick uint64, want api.Live, e api.Errno) {
	t.Helper()
	if got, gotE := l.Join(from, "n", "s", name, tick); got != want || gotE != e {
		t.Errorf("Join(%q, .., %q, %d): %+v, %v, want %+v, %v", from, name, tick, got, gotE, want, e)
	}
}

func wantFind(t *testing.T, l lobbies, session uint64, from string, want api.Live, e api.Errno) {
	t.Helper()
	if got, gotE := l.Find(session, from); got != want || gotE != e {
		t.Errorf("Find(%d, %q): %+v, %v, want %+v, %v", session, from, got, gotE, want, e)
	}
}

func wantSecret(t *testing.T, l lobbies, name, want string, ok bool) {
	t.Helper()
	if got, gotOk := l.Secret(name); got != want || gotOk != ok {
		t.Errorf("Secret(%q): %q, %v, want %q, %v", name, got, gotOk, want, ok)
	}
}

func wantKey(t *testing.T, l lobbies, session uint64, want string, ok bool) {
	t.Helper()
	if got, gotOk := l.Key(session); got != want || gotOk != ok {
		t.Errorf("Key(%d): %x, %v, want %x, %v", session, got, gotOk, want, ok)
	}
}

func wantAccept(t *testing.T, l lobbies, session, seq uint64, command bool, tick uint64, want api.Errno) {
	t.Helper()
	if e := l.Accept(session, seq, command, tick); e != want {
		t.Errorf("Accept(%d, %d, %v, %d): %v, want %v", session, seq, command, tick, e, want)
	}
}

func wantLeave(t *testing.T, l lobbies, session uint64, want api.Live, e api.Errno) {
	t.Helper()
	if got, gotE := l.Leave(session); got != want || gotE != e {
		t.Errorf("Leave(%d): %+v, %v, want %+v, %v", session, got, gotE, want, e)
	}
}

func wantSent(t *testing.T, l lobbies, session, want uint64, e api.Errno) {
	t.Helper()
	if got, gotE := l.Sent(session); got != want || gotE != e {
		t.Errorf("Sent(%d): %d, %v, want %d, %v", session, got, gotE, want, e)
	}
}

// wantExpire asks which sessions leave at a tick, by their numbers.
func wantExpire(t *testing.T, l lobbies, tick uint64, want ...uint64) {
	t.Helper()
	if got := numbers(l.Expire(tick)); !slices.Equal(got, want) {
		t.Errorf("Expire(%d): sessions %v, want %v", tick, got, want)
	}
}

func wantLives(t *testing.T, l lobbies, want ...uint64) {
	t.Helper()
	if got := numbers(l.Lives()); !slices.Equal(got, want) {
		t.Errorf("sessions %v live, want %v", got, want)
	}
}

func numbers(lives []api.Live) []uint64 {
	var list []uint64
	for _, x := range lives {
		list = append(list, x.Session)
	}
	return list
}

// live is what is told of a session that lives.
func live(t *testing.T, l lobbies, session uint64) api.Live {
	t.Helper()
	for _, x := range l.Lives() {
		if x.Session == session {
			return x
		}
	}
	t.Fatalf("session %d does not live", session)
	return api.Live{}
}

// P12.1: the chapter's examples, in their order.
func TestExamples(t *testing.T) {
	l := begun(t, config())
	wantSecret(t, l, "ANN", secret("a"), true)
	wantSecret(t, l, "dan", "", false)
	wantSecret(t, l, "", "", false)
	if l.Next() != 1 {
		t.Errorf("Next %d at first", l.Next())
	}
	ann := api.Live{Session: 1, Player: 0, Name: "Ann", From: "x", Heard: 7}
	bob := api.Live{Session: 2, Player: 1, Name: "bob", From: "y", Heard: 7}
	wantJoin(t, l, "x", "Ann", 7, ann, api.OK)
	wantKey(t, l, 1, mac.Derive(secret("a"), "session", "n", "s", "\x00\x00\x00\x00\x00\x00\x00\x01"), true)
	wantJoin(t, l, "x", "ann", 7, api.Live{}, api.ErrTaken)
	wantJoin(t, l, "x", "dan", 7, api.Live{}, api.ErrAccount)
	wantJoin(t, l, "y", "bob", 7, bob, api.OK)
	wantJoin(t, l, "y", "cy", 7, api.Live{}, api.ErrFull)
	wantJoin(t, l, "y", "bob", 7, api.Live{}, api.ErrTaken)
	if l.Next() != 3 {
		t.Errorf("Next %d behind two Joins", l.Next())
	}
	wantFind(t, l, 1, "x", ann, api.OK)
	wantFind(t, l, 1, "y", api.Live{}, api.ErrSource)
	wantFind(t, l, 3, "x", api.Live{}, api.ErrSession)
	wantFind(t, l, 0, "x", api.Live{}, api.ErrSession)
	wantAccept(t, l, 1, 1, true, 8, api.OK)
	ann.High, ann.Heard = 1, 8
	wantFind(t, l, 1, "x", ann, api.OK)
	wantAccept(t, l, 1, 1, true, 8, api.ErrSeen)
	wantAccept(t, l, 1, 5, true, 8, api.OK)
	wantAccept(t, l, 1, 4, true, 9, api.ErrRate)
	ann.High = 5
	wantFind(t, l, 1, "x", ann, api.OK)
	if e := l.Check(1, 4); e != api.OK || l.Token(1) {
		t.Errorf("Check(1, 4): %v, Token %v", e, l.Token(1))
	}
	l.Refill()
	l.Refill()
	if !l.Token(1) {
		t.Error("no token behind two Refills")
	}
	wantExpire(t, l, 10)
	wantExpire(t, l, 11, 2)
	wantExpire(t, l, 12, 1)
	wantLives(t, l)
	wantLeave(t, l, 1, api.Live{}, api.ErrSession)
}

// P12.1: an account is found by every spelling that name.Same takes for its name, and by no other text; the spelling of a Join is what is told, and what Leave tells.
func TestSpellings(t *testing.T) {
	c := config()
	c.Accounts = []api.Account{{Name: "ann", Secret: secret("a")}, {Name: "Ötzi_9", Secret: secret("o")}, {Name: "ßÿ-α", Secret: secret("s")}, {Name: "ÀÞØÖσ", Secret: secret("t")}}
	for spelling, account := range map[string]string{
		"ann": "a", "ANN": "a", "aNn": "a", "Ann": "a",
		"Ötzi_9": "o", "ötzi_9": "o", "ÖTZI_9": "o", "öTzI_9": "o",
		"ßÿ-α": "s", "àþøöσ": "t", "ÀÞØÖσ": "t", "ÀþØöσ": "t",
	} {
		l := begun(t, c)
		wantSecret(t, l, spelling, secret(account), true)
		told := api.Live{Session: 1, Name: spelling, From: "x", Heard: 7}
		wantJoin(t, l, "x", spelling, 7, told, api.OK)
		if k, _ := l.Key(1); k != mac.Derive(secret(account), "session", "n", "s", "\x00\x00\x00\x00\x00\x00\x00\x01") {
			t.Errorf("%q plays with another key", spelling)
		}
		wantFind(t, l, 1, "x", told, api.OK)
		wantLeave(t, l, 1, told, api.OK)
	}
	l := begun(t, c)
	for _, none := range []string{"", "an", "anna", "ann ", " ann", "ann\x00", "a\xc3\xb1n", "\xff", "otzi_9", "Ötzi-9", "O\u0308tzi_9", "ssÿ-α", "SSŸ-α", "ẞÿ-α", "ßÿ-Α", "àþøöς", "àþøöΣ", "ann\xff", strings.Repeat("ann", 100000)} {
		wantSecret(t, l, none, "", false)
		wantJoin(t, l, "x", none, 7, api.Live{}, api.ErrAccount)
	}
	if l.Next() != 1 || len(l.Lives()) != 0 {
		t.Errorf("Next %d, %d live", l.Next(), len(l.Lives()))
	}
}

// P12.1: an account that plays is taken in every spelling, ahead of a lobby's being full; without an account neither matters.
func TestOrderOfJoinsErrors(t *testing.T) {
	l := begun(t, config())
	wantJoin(t, l, "x", "aNN", 1, api.Live{Session: 1, Player: 0, Name: "aNN", From: "x", Heard: 1}, api.OK)
	for _, name := range []string{"ann", "ANN", "aNN"} {
		wantJoin(t, l, "y", name, 1, api.Live{}, api.ErrTaken)
	}
	wantJoin(t, l, "y", "cy", 1, api.Live{Session: 2, Player: 1, Name: "cy", From: "y", Heard: 1}, api.OK)
	for name, e := range map[string]api.Errno{"ann": api.ErrTaken, "CY": api.ErrTaken, "bob": api.ErrFull, "Bob": api.ErrFull, "dan": api.ErrAccount, "": api.ErrAccount, "bob ": api.ErrAccount} {
		wantJoin(t, l, "z", name, 1, api.Live{}, e)
	}
	wantLives(t, l, 1, 2)
	if l.Next() != 3 {
		t.Errorf("Next %d: a refused Join has used a number", l.Next())
	}
}

// P12.1, P12.2: players are the lowest free ones, behind every order of two Leaves; numbers go on.
func TestLowestFreePlayer(t *testing.T) {
	for _, order := range [][2]uint64{{1, 2}, {1, 3}, {2, 1}, {2, 3}, {3, 1}, {3, 2}} {
		l := joined(t, "ann", "bob", "cy")
		names := []string{"ann", "bob", "cy"}
		for _, session := range order {
			wantLeave(t, l, session, api.Live{Session: session, Player: int(session - 1), Name: names[session-1], From: "x", Heard: 7}, api.OK)
		}
		low, high := int(min(order[0], order[1])-1), int(max(order[0], order[1])-1)
		wantJoin(t, l, "y", names[high], 8, api.Live{Session: 4, Player: low, Name: names[high], From: "y", Heard: 8}, api.OK)
		wantJoin(t, l, "y", names[low], 8, api.Live{Session: 5, Player: high, Name: names[low], From: "y", Heard: 8}, api.OK)
		if l.Next() != 6 {
			t.Errorf("Next %d", l.Next())
		}
	}
}

// P12.1: of a session that does not live, every call tells so, and changes nothing: 0, one that is to come, one that left by Leave or by Expire, one that never will be.
func TestSessionsThatDoNotLive(t *testing.T) {
	l := joined(t, "ann", "bob")
	l.Leave(1)
	wantJoin(t, l, "x", "cy", 20, api.Live{Session: 3, Player: 0, Name: "cy", From: "x", Heard: 20}, api.OK)
	wantExpire(t, l, 20, 2)
	for _, session := range []uint64{0, 1, 2, 4, 5, 3 + 1<<8, 3 + 1<<32, 3 + 1<<63, math.MaxUint64} {
		for range 2 {
			wantKey(t, l, session, "", false)
			wantFind(t, l, session, "x", api.Live{}, api.ErrSession)
			wantFind(t, l, session, "", api.Live{}, api.ErrSession)
			for _, seq := range []uint64{0, 1, 65, math.MaxUint64} {
				if e := l.Check(session, seq); e != api.ErrSession {
					t.Errorf("Check(%d, %d): %v", session, seq, e)
				}
				wantAccept(t, l, session, seq, true, 21, api.ErrSession)
				wantAccept(t, l, session, seq, false, 21, api.ErrSession)
			}
			if l.Token(session) {
				t.Errorf("session %d has a token", session)
			}
			wantLeave(t, l, session, api.Live{}, api.ErrSession)
			wantSent(t, l, session, 0, api.ErrSession)
		}
	}
	if got := l.Lives(); len(got) != 1 || got[0] != (api.Live{Session: 3, Player: 0, Name: "cy", From: "x", Heard: 20}) || l.Next() != 4 {
		t.Errorf("Lives %+v, Next %d", got, l.Next())
	}
}

// P12.1: a session is its source's, byte by byte; "" is a source like others.
func TestSources(t *testing.T) {
	sources := []string{"", "x", "X", "x\x00", "\x00", " x", "xx", "\xff", "\ufffd", strings.Repeat("x", 70000)}
	for _, from := range sources {
		l := begun(t, config())
		told := api.Live{Session: 1, Name: "bob", From: from, Heard: 3}
		wantJoin(t, l, from, "bob", 3, told, api.OK)
		for _, other := range sources {
			if other == from {
				wantFind(t, l, 1, other, told, api.OK)
			} else {
				wantFind(t, l, 1, other, api.Live{}, api.ErrSource)
			}
		}
	}
	l := begun(t, config())
	wantJoin(t, l, "x", "ann", 1, api.Live{Session: 1, Player: 0, Name: "ann", From: "x", Heard: 1}, api.OK)
	wantJoin(t, l, "x", "bob", 1, api.Live{Session: 2, Player: 1, Name: "bob", From: "x", Heard: 1}, api.OK)
	wantFind(t, l, 2, "x", api.Live{Session: 2, Player: 1, Name: "bob", From: "x", Heard: 1}, api.OK)
}

// P12.1: Accept's errors in their order; with each of them High, Heard, the window and the bucket stay.
func TestOrderOfAcceptsErrors(t *testing.T) {
	l := joined(t, "ann")
	wantAccept(t, l, 1, 64, true, 8, api.OK)
	wantAccept(t, l, 1, 128, true, 9, api.OK)
	told := api.Live{Session: 1, Name: "ann", From: "x", Heard: 9, High: 128}
	for range 2 {
		for _, x := range []struct {
			session, seq uint64
			command      bool
			want         api.Errno
		}{
			{2, 128, true, api.ErrSession}, {2, 129, false, api.ErrSession},
			{1, 0, true, api.ErrOld}, {1, 0, false, api.ErrOld}, {1, 1, true, api.ErrOld}, {1, 64, true, api.ErrOld}, {1, 64, false, api.ErrOld},
			{1, 128, true, api.ErrSeen}, {1, 128, false, api.ErrSeen},
			{1, 193, true, api.ErrFar}, {1, 193, false, api.ErrFar}, {1, math.MaxUint64, true, api.ErrFar},
			{1, 65, true, api.ErrRate}, {1, 127, true, api.ErrRate}, {1, 129, true, api.ErrRate}, {1, 192, true, api.ErrRate},
		} {
			wantAccept(t, l, x.session, x.seq, x.command, 99, x.want)
			wantFind(t, l, 1, "x", told, api.OK)
		}
	}
	for seq, want := range map[uint64]api.Errno{0: api.ErrOld, 64: api.ErrOld, 65: api.OK, 127: api.OK, 128: api.ErrSeen, 129: api.OK, 192: api.OK, 193: api.ErrFar, math.MaxUint64: api.ErrFar} {
		if e := l.Check(1, seq); e != want {
			t.Errorf("Check(1, %d): %v, want %v", seq, e, want)
		}
	}
	l.Refill()
	if l.Token(1) {
		t.Error("half a token is one: a refused command has brought something")
	}
	l.Refill()
	wantAccept(t, l, 1, 192, true, 10, api.OK)
	wantAccept(t, l, 1, 129, true, 10, api.ErrRate)
	wantAccept(t, l, 1, 129, false, 11, api.OK)
	wantFind(t, l, 1, "x", api.Live{Session: 1, Name: "ann", From: "x", Heard: 11, High: 192}, api.OK)
}

// P12.1: a bye needs no token and takes none; what is fresh is marked by it all the same.
func TestByesNeedNoToken(t *testing.T) {
	l := joined(t, "ann")
	for seq := uint64(1); seq <= 10; seq++ {
		wantAccept(t, l, 1, seq, false, 7+seq, api.OK)
		wantAccept(t, l, 1, seq, false, 7, api.ErrSeen)
		wantAccept(t, l, 1, seq, true, 7, api.ErrSeen)
	}
	wantAccept(t, l, 1, 11, true, 20, api.OK)
	wantAccept(t, l, 1, 12, true, 20, api.OK)
	wantAccept(t, l, 1, 13, true, 20, api.ErrRate)
	for seq := uint64(13); seq <= 20; seq++ {
		wantAccept(t, l, 1, seq, false, 20, api.OK)
		if l.Token(1) {
			t.Fatal("a bye has brought a token")
		}
	}
	l.Refill()
	l.Refill()
	wantAccept(t, l, 1, 21, false, 20, api.OK)
	if !l.Token(1) {
		t.Error("a bye has taken a token")
	}
}

// P12.1: Heard is the tick of what was accepted last, though it be an earlier one; High is the highest.
func TestHeardAndHigh(t *testing.T) {
	l := joined(t, "ann")
	for _, x := range []struct{ seq, tick, high uint64 }{{5, 9, 5}, {4, 3, 5}, {6, 0, 6}, {2, math.MaxUint64, 6}, {70, 1, 70}, {69, 1 << 40, 70}} {
		wantAccept(t, l, 1, x.seq, false, x.tick, api.OK)
		wantFind(t, l, 1, "x", api.Live{Session: 1, Name: "ann", From: "x", Heard: x.tick, High: x.high}, api.OK)
	}
}

// P12.1: which sessions are idle too long: Heard, Idle and ticks at the edges, and near 2^64 - 1, where a sum would wrap.
func TestExpireAtTheEdges(t *testing.T) {
	const end = uint64(math.MaxUint64)
	for _, x := range []struct {
		idle        int
		heard, tick uint64
		leaves      bool
	}{
		{3, 5, 8, false}, {3, 5, 9, true}, {3, 5, 10, true}, {3, 5, end, true},
		{3, 5, 5, false}, {3, 5, 4, false}, {3, 5, 1, false}, {3, 5, 0, false},
		{1, 0, 0, false}, {1, 0, 1, false}, {1, 0, 2, true}, {1, 0, end, true},
		{100000, 0, 100000, false}, {100000, 0, 100001, true}, {100000, 1, 100001, false}, {100000, 1, 100002, true},
		{1, end, end, false}, {1, end, 0, false}, {1, end, 1, false}, {1, end, end - 1, false},
		{3, end, 2, false}, {3, end, 3, false}, {3, end - 1, end, false}, {3, end - 2, end, false}, {3, end - 3, end, false}, {3, end - 4, end, true}, {3, end - 4, end - 1, false}, {3, end - 4, 0, false},
		{100000, end - 100000, end, false}, {100000, end - 100001, end, true}, {100000, end - 5, 99994, false}, {100000, end - 5, 99995, false},
		{3, 1 << 63, 1<<63 + 3, false}, {3, 1 << 63, 1<<63 + 4, true}, {3, 1<<63 - 1, 1<<63 + 3, true}, {3, 1 << 63, 4, false}, {3, 1 << 32, 4, false}, {3, 4, 1 << 32, true}, {3, 4, 1 << 63, true},
	} {
		c := config()
		c.Idle = x.idle
		l := begun(t, c)
		told := api.Live{Session: 1, Name: "ann", From: "x", Heard: x.heard}
		wantJoin(t, l, "x", "ann", x.heard, told, api.OK)
		got := l.Expire(x.tick)
		switch {
		case x.leaves && (len(got) != 1 || got[0] != told || len(l.Lives()) != 0):
			t.Errorf("Idle %d, Heard %d, Expire(%d): %+v, it leaves", x.idle, x.heard, x.tick, got)
		case !x.leaves && (len(got) != 0 || len(l.Lives()) != 1):
			t.Errorf("Idle %d, Heard %d, Expire(%d): %+v, it stays", x.idle, x.heard, x.tick, got)
		}
	}
}

// P12.1: only an accepted datagram is heard: no refused one, no other call.
func TestWhatIsHeard(t *testing.T) {
	l := joined(t, "ann", "bob")
	wantAccept(t, l, 2, 1, false, 9, api.OK)
	wantAccept(t, l, 1, 0, true, 10, api.ErrOld)
	wantAccept(t, l, 1, 65, true, 10, api.ErrFar)
	l.Sent(1)
	l.Find(1, "x")
	l.Check(1, 1)
	l.Token(1)
	l.Refill()
	wantJoin(t, l, "x", "ann", 10, api.Live{}, api.ErrTaken)
	wantExpire(t, l, 10)
	wantExpire(t, l, 11, 1)
	wantExpire(t, l, 11)
	wantExpire(t, l, 12)
	wantExpire(t, l, 13, 2)
}

// P12.1: those who leave by Expire are told as they were, by their numbers, whatever their players and their Heard; their players and accounts are free.
func TestExpireTells(t *testing.T) {
	l := joined(t, "ann", "bob", "cy")
	l.Leave(1)
	wantJoin(t, l, "y", "ANN", 6, api.Live{Session: 4, Player: 0, Name: "ANN", From: "y", Heard: 6}, api.OK)
	wantAccept(t, l, 3, 9, true, 8, api.OK)
	wantSent(t, l, 3, 1, api.OK)
	wantSent(t, l, 3, 2, api.OK)
	want := []api.Live{
		{Session: 2, Player: 1, Name: "bob", From: "x", Heard: 7},
		{Session: 3, Player: 2, Name: "cy", From: "x", Heard: 8, High: 9, Sent: 2},
		{Session: 4, Player: 0, Name: "ANN", From: "y", Heard: 6},
	}
	if got := l.Lives(); !slices.Equal(got, want) {
		t.Errorf("Lives: %+v", got)
	}
	if got := l.Expire(100); !slices.Equal(got, want) {
		t.Errorf("Expire: %+v", got)
	}
	wantLives(t, l)
	wantJoin(t, l, "z", "bob", 9, api.Live{Session: 5, Player: 0, Name: "bob", From: "z", Heard: 9}, api.OK)
	wantJoin(t, l, "z", "ann", 9, api.Live{Session: 6, Player: 1, Name: "ann", From: "z", Heard: 9}, api.OK)
}

// P12.1: Sent counts from 1 on, a session by itself; a new session of the account begins anew, with a full bucket and an empty window.
func TestSessionsBeginAnew(t *testing.T) {
	l := joined(t, "ann", "bob")
	for want := uint64(1); want <= 300; want++ {
		wantSent(t, l, 1, want, api.OK)
	}
	wantSent(t, l, 2, 1, api.OK)
	wantAccept(t, l, 1, 1, true, 8, api.OK)
	wantAccept(t, l, 1, 9, true, 8, api.OK)
	wantLeave(t, l, 1, api.Live{Session: 1, Name: "ann", From: "x", Heard: 8, High: 9, Sent: 300}, api.OK)
	wantJoin(t, l, "x", "ann", 9, api.Live{Session: 3, Name: "ann", From: "x", Heard: 9}, api.OK)
	wantSent(t, l, 3, 1, api.OK)
	if e := l.Check(3, 65); e != api.ErrFar {
		t.Errorf("Check(3, 65): %v", e)
	}
	wantAccept(t, l, 3, 9, true, 9, api.OK)
	wantAccept(t, l, 3, 1, true, 9, api.OK)
	wantAccept(t, l, 3, 2, true, 9, api.ErrRate)
	wantAccept(t, l, 2, 9, true, 9, api.OK)
}
