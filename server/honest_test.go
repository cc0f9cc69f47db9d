package server_test

import (
	"slices"
	"testing"

	"joust/api"
	"joust/book"
	"joust/frame"
)

// honest plays from the source "home" by what it is sent alone: it knows its name and its secret.
type honest struct {
	name, secret string
	cookie       api.Datagram
	session      uint64
	key          string
	seq          uint64
}

// hear takes what was sent to it.
func (h *honest) hear(t *testing.T, out []api.Out) {
	t.Helper()
	for _, x := range out {
		if x.To != "home" {
			continue
		}
		d, e := frame.Decode(x.Data)
		switch {
		case e != api.OK:
			t.Fatal(e)
		case d.Kind == api.KdCookie:
			h.cookie = d
		case d.Kind == api.KdWelcome:
			key := derive(h.secret, "session", d.Nonce, d.Salt, eight(d.Session))
			if !frame.Sealed(x.Data, key) {
				t.Fatal("a welcome that is not sealed")
			}
			h.session, h.key = d.Session, key
		case d.Kind == api.KdBye:
			t.Fatal("an honest player is sent away")
		}
	}
}

// noise are others' datagrams: any ones, copies of the honest player's own, and such as are nearly his, but from other sources.
func (k *cast) noise(own []string) api.Event {
	e := k.datagram()
	switch k.below(6) {
	case 0, 1:
		e.From, e.Data = k.source(), pick(&k.dice, own...)
	case 2:
		e.From, e.Data = k.source(), k.turned(pick(&k.dice, own...))
	case 3:
		e.Data = k.turned(e.Data)
	}
	if e.From == "home" {
		e.From = k.source()
	}
	return e
}

// match is an honest player's, amid noise.
type match struct {
	*honest
	*cast
	t   *testing.T
	s   servers
	own []string
}

// both lets the server and the plain one, from which the noise knows others' secrets, do an event.
func (m *match) both(e api.Event) {
	m.t.Helper()
	out, got := m.s.Do(e)
	if _, want := m.p.Do(e); got != want {
		m.t.Fatalf("%+v: %v, want %v", e, got, want)
	}
	m.hear(m.t, out)
}

func (m *match) say(data string) {
	m.t.Helper()
	m.own = append(m.own, data)
	if _, e := m.s.Do(api.Event{Kind: api.EvData, From: "home", Data: data}); e != api.OK {
		m.t.Fatalf("an honest datagram is refused: %v", e)
	}
	m.p.Do(api.Event{Kind: api.EvData, From: "home", Data: data})
}

func (m *match) crowd() {
	m.t.Helper()
	for range m.below(12) {
		m.both(m.noise(m.own))
	}
	m.both(api.Event{Kind: api.EvTake, N: 1000})
}

func (m *match) tick() {
	m.t.Helper()
	m.both(api.Event{Kind: api.EvTick})
	m.crowd()
}

// P0.5: whoever plays honestly, plays, whatever others send between: has a session, and each command is an intent of the next tick's label.
func TestHonest(t *testing.T) {
	d := dice(66743015)
	for range rounds(60) {
		c := d.config()
		c.Accounts = slices.Clone(accounts)
		c.Sessions, c.Output, c.SourceBurst, c.Life = len(accounts), 256, pick(&d, 1, 2), pick(&d, 1, 2, 7)
		pause := pick(&d, 1, 2, 4)
		c.Rate, c.Burst, c.Idle = 16/pause, pick(&d, 1, 2), pause+d.below(3)
		k := d.cast(t, c)
		k.accounts = accounts[1:] // nobody else plays ann's
		m := &match{&honest{name: "ann", secret: accounts[0].Secret}, k, t, begun(t, c), nil}
		m.say(hello(nonce))
		m.crowd()
		// The cookie lives through its epoch and the next one.
		for range k.below(c.Life + 1) {
			m.tick()
		}
		m.say(connect(m.cookie, m.name, m.secret))
		m.crowd()
		if m.session == 0 {
			t.Fatal("no welcome")
		}
		for range 20 {
			m.play(pause)
		}
	}
}

// play says a command, and asks for its intent in the next tick, which is followed by more without a word.
func (m *match) play(pause int) {
	m.t.Helper()
	m.seq++
	throttle, turn := m.within(-100, 100), m.within(-8, 8)
	m.say(driven(m.session, m.seq, string([]byte{byte(int8(throttle)), byte(int8(turn)), 1}), m.key))
	want := api.Intent{Player: m.player(m.t, m.s), Throttle: throttle, Turn: turn, Fire: true}
	m.crowd()
	m.tick()
	wantIntent(m.t, m.s.Ledger(), want)
	for range pause - 1 {
		m.tick()
	}
}

func (h *honest) player(t *testing.T, s servers) int {
	t.Helper()
	for _, l := range s.Lives() {
		if l.Session == h.session && l.From == "home" {
			return l.Player
		}
	}
	t.Fatal("an honest player's session is over")
	return 0
}

// wantIntent asks that an intent is in the label of the last tick.
func wantIntent(t *testing.T, ledger []api.Entry, want api.Intent) {
	t.Helper()
	labels, e := book.Labels(ledger)
	if e != api.OK {
		t.Fatal(e)
	}
	for _, l := range slices.Backward(labels) {
		if l.Kind == api.LbTick {
			if !slices.Contains(l.Intents, want) {
				t.Fatalf("%+v, want %+v among them", l, want)
			}
			return
		}
	}
}
