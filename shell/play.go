package shell

import (
	"cmp"

	"joust/api"
	"joust/client"
	"joust/mac"
)

// ticks is how many one line lets pass at most.
const ticks = 200

func (s *Shell) join(w *words) []string {
	called, source := w.word(), w.word()
	m := s.behind(w)
	c, e := client.New(api.Account{Name: called, Secret: s.known(called)}, nonce(called))
	allow(e)
	d := &driver{Client: c, name: called, source: source}
	m.seat(d)
	hello, _ := d.Hello()
	m.say(d, hello) // no hello is refused
	refused := m.carry()
	session, player, plays := d.Playing()
	if !plays {
		panic(cmp.Or(refused, api.ErrState))
	}
	return one(called, "session", digits(session), "player", digits(player))
}

func (s *Shell) drive(w *words) []string {
	called, x := w.word(), w.command()
	m := s.behind(w)
	d := m.find(called)
	data, e := d.Command(x)
	allow(e)
	return m.done(m.say(d, data))
}

func (s *Shell) bye(w *words) []string {
	called := w.word()
	m := s.behind(w)
	d := m.find(called)
	data, e := d.Bye()
	allow(e)
	return m.done(m.say(d, data))
}

func (s *Shell) again(w *words) []string {
	called, source := w.word(), w.word()
	m := s.behind(w)
	d := m.find(called)
	if d.sent == "" {
		panic(api.ErrState)
	}
	return m.done(m.send(source, d.sent))
}

func (s *Shell) raw(w *words) []string {
	source, data := w.word(), w.bytes()
	m := s.behind(w)
	return m.done(m.send(source, data))
}

func (s *Shell) draw(w *words) []string {
	word := w.word()
	m := s.behind(w)
	m.server.Do(api.Event{Kind: api.EvDraw, Data: mac.Tag("draw", word)})
	return nil
}

func (s *Shell) tick(w *words) []string {
	n := 1
	if word := w.next(); word != "" {
		n = number(word)
		want(n >= 1 && n <= ticks)
	}
	m := s.behind(w)
	for range n {
		m.server.Do(api.Event{Kind: api.EvTick})
		m.carry()
	}
	return one(tickLine(m.server.State().Tick))
}

// done carries what a datagram that was sent brings with it, and tells what the server said of that datagram itself.
func (m *match) done(e api.Errno) []string {
	m.carry()
	allow(e)
	return one("ok")
}
