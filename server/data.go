package server

import (
	"joust/api"
	"joust/bucket"
	"joust/frame"
	"joust/mac"
	"joust/pack"
)

// mail is a datagram as it came, and taken apart.
type mail struct {
	from string
	data string
	api.Datagram
}

// purse is a source's bucket as it was at a tick. What came since is brought when it is used again, so that ticks do no work for strangers.
type purse struct {
	bucket.Bucket
	at uint64
}

// data judges a datagram. Each counts once, by what became of it.
func (s *Server) data(e api.Event) ([]api.Out, api.Errno) {
	d, refused := frame.Decode(e.Data)
	if refused == api.OK {
		refused = answer(d.Kind)(s, mail{from: e.From, data: e.Data, Datagram: d})
	}
	switch {
	case refused != api.OK:
		s.counts.Refused++
	case d.Kind == api.KdHello:
		s.counts.Hellos++
	default:
		s.counts.Accepted++
	}
	return nil, refused
}

// answer tells how a datagram of a kind is judged. Where it is refused, nothing has changed, but for a source's bucket.
func answer(kind int) func(*Server, mail) api.Errno {
	switch kind {
	case api.KdHello:
		return (*Server).hello
	case api.KdConnect:
		return (*Server).connect
	case api.KdCommand:
		return (*Server).command
	case api.KdBye:
		return (*Server).bye
	}
	return (*Server).foreign
}

// foreign refuses kinds that a server alone sends.
func (s *Server) foreign(mail) api.Errno { return api.ErrKind }

// hello is answered by a cookie, and nothing is kept of it: whoever says hello may be anybody.
func (s *Server) hello(m mail) api.Errno {
	s.send(m.from, func() string {
		data, _ := frame.Encode(api.Datagram{Kind: api.KdCookie, Nonce: m.Nonce, Epoch: s.jar.Epoch(), Cookie: s.jar.Bake(m.from, m.Nonce)})
		return data
	})
	return api.OK
}

// connect begins a session.
func (s *Server) connect(m mail) api.Errno {
	if e := s.jar.Check(m.from, m.Nonce, m.Epoch, m.Cookie); e != api.OK {
		return e
	}
	if e := s.pay(m.from); e != api.OK {
		return e
	}
	secret, ok := s.lobby.Secret(m.Name)
	if !ok {
		return api.ErrAccount
	}
	if !frame.Sealed(m.data, secret) {
		return api.ErrTag
	}
	salt := s.salt(s.lobby.Next())
	l, e := s.lobby.Join(m.from, m.Nonce, salt, m.Name, s.state.Tick)
	if e != api.OK {
		return e
	}
	s.welcome(l, m.Nonce, salt)
	s.enter(api.LbJoin, l, 0, m.data)
	s.follow(api.Label{Kind: api.LbJoin, Player: l.Player, Name: l.Name})
	return api.OK
}

// pay takes a token of a source, which is used by it, whether it has one or not.
func (s *Server) pay(from string) api.Errno {
	now := s.state.Tick
	p, ok := s.sources.Get(from)
	if !ok {
		p = purse{s.full, now}
	}
	p.Ticks(now - p.at)
	p.at = now
	e := p.Take()
	s.sources.Put(from, p)
	return e
}

// salt is the one of a session that begins now.
func (s *Server) salt(session uint64) string {
	w := pack.NewWriter()
	w.Number(session, 8)
	number, _ := w.Done()
	return mac.Derive(s.pool, "salt", number)[:api.NonceLen]
}

// welcome tells a client its session, and the salt of which it makes the key.
func (s *Server) welcome(l api.Live, nonce, salt string) {
	s.send(l.From, func() string {
		key, _ := s.lobby.Key(l.Session)
		data, _ := frame.Seal(api.Datagram{Kind: api.KdWelcome, Nonce: nonce, Session: l.Session, Player: l.Player, Salt: salt}, key)
		return data
	})
}

// command lets an intent wait. The token comes last: where there is none, nothing has changed, and where there is one, nothing is left to refuse.
func (s *Server) command(m mail) api.Errno {
	l, e := s.known(m)
	if e != api.OK {
		return e
	}
	if e := s.lobby.Check(m.Session, m.Seq); e != api.OK {
		return e
	}
	if s.gate.Waits(l.Player) {
		return api.ErrExcess
	}
	if e := s.lobby.Accept(m.Session, m.Seq, true, s.state.Tick); e != api.OK {
		return e
	}
	s.gate.Offer(l.Player, m.Command)
	s.enter(api.LbCommand, l, m.Seq, m.data)
	return api.OK
}

// bye ends a session by its own will.
func (s *Server) bye(m mail) api.Errno {
	l, e := s.known(m)
	if e != api.OK {
		return e
	}
	if e := s.lobby.Accept(m.Session, m.Seq, false, s.state.Tick); e != api.OK {
		return e
	}
	s.lobby.Leave(m.Session)
	s.leave(l, m.Seq, m.data)
	return api.OK
}

// known finds the session of a datagram that its source sent and its key sealed.
func (s *Server) known(m mail) (api.Live, api.Errno) {
	l, e := s.lobby.Find(m.Session, m.from)
	if e != api.OK {
		return api.Live{}, e
	}
	key, _ := s.lobby.Key(m.Session)
	if !frame.Sealed(m.data, key) {
		return api.Live{}, api.ErrTag
	}
	return l, api.OK
}

// leave takes out of the game what a session had in it.
func (s *Server) leave(l api.Live, seq uint64, data string) {
	s.enter(api.LbLeave, l, seq, data)
	s.gate.Drop(l.Player)
	s.follow(api.Label{Kind: api.LbLeave, Player: l.Player})
}
