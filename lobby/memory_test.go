package lobby_test

import (
	"math"
	"runtime"
	"slices"
	"strings"
	"testing"
	"unsafe"

	"joust/api"
)

// P12.6: a configuration that is handed in stays as it is, its list and the spare room of it too, in whatever is done to the lobby; one that is refused, too.
func TestConfigurationsStay(t *testing.T) {
	c := config()
	spare := append(slices.Clone(c.Accounts), api.Account{Name: "spare", Secret: "room"}, api.Account{Name: "Ann", Secret: "x"})
	want := slices.Clone(spare)
	c.Accounts = spare[:3]
	l := begun(t, c)
	d := &player{dice: 77, plain: plainOf(config())}
	for range 500 {
		_, call := d.call()
		call(d.plain)
		call(l)
	}
	if !slices.Equal(spare, want) {
		t.Errorf("New has changed the accounts: %q", spare)
	}
	c.Accounts = spare
	wantRefused(t, "a fourth account that is none", c)
	if !slices.Equal(spare, want) {
		t.Errorf("a refused New has changed the accounts: %q", spare)
	}
}

// P12.6: the list of accounts is not kept: whoever writes over it, its texts or its spare room changes nothing in the lobby.
func TestConfigurationsAreNotKept(t *testing.T) {
	c := config()
	var texts [][]byte
	text := func(s string) string {
		b := []byte(s)
		texts = append(texts, b)
		return unsafe.String(&b[0], len(b))
	}
	for i := range c.Accounts {
		c.Accounts[i] = api.Account{Name: text(c.Accounts[i].Name), Secret: text(c.Accounts[i].Secret)}
	}
	l, want := begun(t, c), begun(t, config())
	for _, b := range texts {
		copy(b, strings.Repeat("#", len(b)))
	}
	for i := range c.Accounts {
		c.Accounts[i] = api.Account{Name: "eve", Secret: secret("e")}
	}
	c.Accounts = append(c.Accounts[:0], api.Account{Name: "dan", Secret: secret("d")})
	for _, x := range []lobbies{l, want} {
		wantSecret(t, x, "ann", secret("a"), true)
		wantSecret(t, x, "Bob", secret("b"), true)
		wantSecret(t, x, "cy", secret("c"), true)
		wantSecret(t, x, "eve", "", false)
		wantSecret(t, x, "dan", "", false)
		wantJoin(t, x, "x", "eve", 1, api.Live{}, api.ErrAccount)
		wantJoin(t, x, "x", "Bob", 1, api.Live{Session: 1, Name: "Bob", From: "x", Heard: 1}, api.OK)
	}
	key, _ := want.Key(1)
	wantKey(t, l, 1, key, true)
}

// P12.6: lists that were told may be written over by their owner, their spare room too, and change by no later call.
func TestListsAreTheirOwn(t *testing.T) {
	c := config()
	c.Sessions, c.Accounts = 32, many(40)
	for n := range 33 {
		l := begun(t, c)
		for i := range n {
			l.Join("x", "n", "s", c.Accounts[i].Name, uint64(10*i))
		}
		ahead := told(l)
		written, kept := l.Lives(), l.Lives()
		want := slices.Clone(kept)
		for i := range written[:cap(written)] {
			written[:cap(written)][i] = api.Live{Session: 99, Name: "#"}
		}
		if behind := told(l); behind != ahead || !slices.Equal(kept, want) {
			t.Fatalf("%d sessions: a list of Lives was written over, the lobby tells\n%s, then\n%s", n, ahead, behind)
		}
		left := l.Expire(uint64(5*n + 4))
		wantLeft := slices.Clone(left)
		for i := range kept {
			l.Accept(uint64(i+1), 1, true, 1000)
			l.Sent(uint64(i + 1))
			if i%3 == 0 {
				l.Leave(uint64(i + 1))
			}
		}
		l.Join("y", "n", "s", "player39", 5)
		later := l.Expire(math.MaxUint64)
		l.Join("y", "n", "s", "player38", 5)
		if !slices.Equal(kept, want) || !slices.Equal(left, wantLeft) {
			t.Fatalf("%d sessions: lists that were told have changed: %+v, %+v", n, kept, left)
		}
		ahead = told(l)
		for _, list := range [][]api.Live{left, later} {
			for i := range list[:cap(list)] {
				list[:cap(list)][i] = api.Live{Session: 99, Name: "#"}
			}
		}
		if behind := told(l); behind != ahead {
			t.Fatalf("%d sessions: a list of Expire was written over, the lobby tells\n%s, then\n%s", n, ahead, behind)
		}
	}
}

// share tells whether two texts have memory in common.
func share(a, b string) bool {
	p, q := uintptr(unsafe.Pointer(unsafe.StringData(a))), uintptr(unsafe.Pointer(unsafe.StringData(b)))
	return a != "" && b != "" && p < q+uintptr(len(b)) && q < p+uintptr(len(a))
}

// P12.6 (R11): no text that is answered shares memory with one that was handed in, nor with another answer.
func TestTextsAreTheirOwn(t *testing.T) {
	c := config()
	from, called := "a source", "Ann"
	l := begun(t, c)
	texts := []string{from, called, c.Accounts[0].Name, c.Accounts[0].Secret}
	lives := func(list ...api.Live) {
		for _, x := range list {
			texts = append(texts, x.Name, x.From)
		}
	}
	for session := uint64(1); session <= 2; session++ {
		x, _ := l.Join(from, "n", "s", called, 7)
		lives(x)
		for range 2 {
			x, _ = l.Find(session, from)
			lives(x)
			lives(l.Lives()...)
			key, _ := l.Key(session)
			s, _ := l.Secret(called)
			texts = append(texts, key, s)
		}
		if session == 1 {
			x, _ = l.Leave(session)
			lives(x)
		} else {
			lives(l.Expire(100)...)
		}
	}
	if len(texts) != 4+2*(2+2*6+2) || slices.Contains(texts, "") {
		t.Fatalf("%q", texts)
	}
	for i, a := range texts {
		for k, b := range texts[:i] {
			if share(a, b) {
				t.Errorf("texts number %d and %d share memory: %q", k, i, a)
			}
		}
	}
}

// P12.6 (R11): what is handed in is not kept: the bytes of a Join's texts may be written over behind it.
func TestTextsAreNotKept(t *testing.T) {
	l, want := begun(t, config()), begun(t, config())
	var texts [][]byte
	text := func(s string) string {
		b := []byte(s)
		texts = append(texts, b)
		return unsafe.String(&b[0], len(b))
	}
	told1, _ := l.Join(text("source"), text("nonce"), text("salt"), text("Ann"), 7)
	want.Join("source", "nonce", "salt", "Ann", 7)
	for _, b := range texts {
		copy(b, strings.Repeat("#", len(b)))
	}
	if told1 != live(t, want, 1) || told(l) != told(want) {
		t.Errorf("the texts that were handed in are written over: %+v, %s", told1, told(l))
	}
	wantFind(t, l, 1, "source", live(t, want, 1), api.OK)
}

// P12.1: of sessions that left nothing is kept: their sources' memory is free again, be it by Leave or by Expire; nor is anything kept of a refused Join.
func TestNothingIsKept(t *testing.T) {
	l := begun(t, config())
	long := strings.Repeat("x", 1<<20)
	for i := range 300 {
		x, _ := l.Join(long, "n", "s", "ann", uint64(i))
		l.Join(long, long, long, "Ann", uint64(i))
		l.Join(long, long, long, long, uint64(i))
		if i%2 == 0 {
			l.Leave(x.Session)
		} else {
			l.Expire(uint64(i + 4))
		}
	}
	var m runtime.MemStats
	runtime.GC()
	runtime.ReadMemStats(&m)
	if m.HeapAlloc > 60<<20 {
		t.Errorf("%d MiB are kept behind 300 sessions that left", m.HeapAlloc>>20)
	}
	if l.Next() != 301 || len(l.Lives()) != 0 {
		t.Errorf("Next %d, %d live", l.Next(), len(l.Lives()))
	}
}

// R13: what is told hangs on no order of a map: 32 sessions are told alike each time, and by lobbies that came to them alike.
func TestToldAlike(t *testing.T) {
	c := config()
	c.Sessions, c.Accounts = 32, many(64)
	fill := func() lobbies {
		l := begun(t, c)
		for i := range 40 {
			l.Join("x", "n", "s", c.Accounts[i].Name, uint64(i*i%7))
			if i%5 == 4 {
				l.Leave(uint64(i - 2))
			}
		}
		return l
	}
	first := fill()
	want := told(first)
	for range 50 {
		l := fill()
		if told(l) != want || told(first) != want {
			t.Fatalf("two lobbies of the same calls tell\n%s,\n%s", told(l), want)
		}
	}
	left := first.Expire(8)
	if len(left) < 5 || !slices.IsSortedFunc(left, func(a, b api.Live) int { return int(a.Session) - int(b.Session) }) {
		t.Errorf("Expire tells %+v", left)
	}
}
