package referee

import (
	"slices"

	"joust/api"
	"joust/bucket"
	"joust/frame"
	"joust/name"
)

// stand is what stands so far. An entry at fault ends the judgement, so nobody looks at what it has changed by then.
type stand struct {
	accounts map[string]api.Account // by their names in small letters
	most     int
	idle     uint64
	full     bucket.Bucket
	keys     func(session uint64) (string, bool)

	ticks    uint64
	begun    uint64     // how many sessions there were
	expiring bool       // whether the last entry was a leave by idleness
	lives    []*session // by their numbers: each has a greater one than those that began ahead of it
}

// begin is what stands ahead of a ledger, by a configuration that may be.
func begin(c api.Config, keys func(session uint64) (string, bool)) *stand {
	// The configuration may be, so neither number is refused.
	full, _ := bucket.New(c.Rate, c.Burst)
	s := &stand{accounts: map[string]api.Account{}, most: c.Sessions, idle: uint64(c.Idle), full: full, keys: keys}
	for _, a := range c.Accounts {
		s.accounts[name.Fold(a.Name)] = a
	}
	return s
}

// follow lets an entry come, or tells why it may not. What one EvTick makes stands together, so behind a leave by idleness comes no news.
func (s *stand) follow(x api.Entry) api.Errno {
	if x.Tick != s.ticks || s.expiring && x.Kind != api.LbTick && !isIdle(x) {
		return api.ErrLedger
	}
	s.expiring = isIdle(x)
	switch {
	case s.expiring:
		return s.expire(x)
	case x.Kind == api.LbJoin:
		return s.join(x)
	case x.Kind == api.LbLeave:
		return s.bye(x)
	case x.Kind == api.LbTick:
		return s.tick(x)
	case x.Kind == api.LbCommand:
		return s.command(x)
	}
	return api.ErrLedger
}

func (s *stand) tick(x api.Entry) api.Errno {
	if x != (api.Entry{Kind: api.LbTick, Tick: x.Tick}) || s.overdue() != nil {
		return api.ErrLedger
	}
	s.ticks++
	for _, p := range s.lives {
		p.waits = false
		p.bucket.Tick()
	}
	return api.OK
}

func (s *stand) join(x api.Entry) api.Errno {
	d, _ := frame.Decode(x.Data)
	a, known := s.accounts[name.Fold(x.Name)]
	switch {
	case x.Seq != 0 || d.Kind != api.KdConnect || d.Name != x.Name:
		return api.ErrLedger
	case !known:
		return api.ErrAccount
	case !frame.Sealed(x.Data, a.Secret):
		return api.ErrTag
	case s.plays(x.Name):
		return api.ErrTaken
	case len(s.lives) >= s.most:
		return api.ErrFull
	case x.Session != s.begun+1 || x.Player != s.free():
		return api.ErrLedger
	}
	s.begun++
	s.lives = append(s.lives, &session{who: whoOf(x), heard: s.ticks, bucket: s.full})
	return api.OK
}

func (s *stand) command(x api.Entry) api.Errno {
	p, e := s.said(x, api.KdCommand)
	switch {
	case e != api.OK:
		return e
	case p.waits:
		return api.ErrExcess
	case p.bucket.Take() != api.OK:
		return api.ErrRate
	case p.who != whoOf(x):
		return api.ErrLedger
	}
	p.heard, p.waits = s.ticks, true
	return api.OK
}

func (s *stand) bye(x api.Entry) api.Errno {
	p, e := s.said(x, api.KdBye)
	switch {
	case e != api.OK:
		return e
	case p.who != whoOf(x):
		return api.ErrLedger
	}
	s.leave(p)
	return api.OK
}

// expire lets a session leave by idleness: of those that must, the one with the least number goes first.
func (s *stand) expire(x api.Entry) api.Errno {
	p := s.find(x.Session)
	switch {
	case x.Seq != 0:
		return api.ErrLedger
	case p == nil:
		return api.ErrSession
	case p.who != whoOf(x) || p != s.overdue():
		return api.ErrLedger
	}
	s.leave(p)
	return api.OK
}

// said judges what commands and byes have in common, up to the sequence number, which is marked: by which session it was said.
func (s *stand) said(x api.Entry, kind int) (*session, api.Errno) {
	d, _ := frame.Decode(x.Data)
	if d.Kind != kind || d.Session != x.Session || d.Seq != x.Seq {
		return nil, api.ErrLedger
	}
	p := s.find(x.Session)
	if p == nil {
		return nil, api.ErrSession
	}
	key, known := s.keys(x.Session)
	switch {
	case !known:
		return nil, api.ErrSession
	case p.who.from != x.From:
		return nil, api.ErrSource
	case !frame.Sealed(x.Data, key):
		return nil, api.ErrTag
	}
	return p, p.window.Mark(x.Seq)
}

func (s *stand) leave(p *session) {
	s.lives = slices.DeleteFunc(s.lives, func(q *session) bool { return q == p })
}

// find gives the session of a number, and nil if none lives.
func (s *stand) find(number uint64) *session {
	return s.first(func(p *session) bool { return p.who.session == number })
}

// overdue gives the session that must leave first in the coming tick, and nil if none must.
func (s *stand) overdue() *session {
	return s.first(func(p *session) bool { return s.ticks+1-p.heard > s.idle })
}

// plays tells whether an account's session lives.
func (s *stand) plays(called string) bool {
	return s.first(func(p *session) bool { return name.Same(p.who.name, called) }) != nil
}

// free is the lowest number that no player has, while fewer live than may: so there is one.
func (s *stand) free() int {
	var taken [api.MaxSessions]bool
	for _, p := range s.lives {
		taken[p.who.player] = true
	}
	return slices.Index(taken[:], false)
}

// first gives the session with the least number of those that a function picks, and nil if it picks none.
func (s *stand) first(pick func(p *session) bool) *session {
	if i := slices.IndexFunc(s.lives, pick); i >= 0 {
		return s.lives[i]
	}
	return nil
}
