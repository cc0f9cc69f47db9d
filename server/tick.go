package server

import (
	"joust/api"
	"joust/frame"
	"joust/snap"
	"joust/view"
)

// tick lets the time go on by one.
func (s *Server) tick(api.Event) ([]api.Out, api.Errno) {
	now := s.state.Tick + 1
	if now%s.life == 0 {
		s.jar.Turn(s.pool)
	}
	s.expire(now)
	s.enter(api.LbTick, api.Live{}, 0, "")
	s.follow(api.Label{Kind: api.LbTick, Intents: s.gate.Take()})
	s.lobby.Refill()
	s.snapshots()
	return nil, api.OK
}

// expire ends the sessions that were not heard for too long, each with a bye.
func (s *Server) expire(now uint64) {
	keys := s.keys()
	for _, l := range s.lobby.Expire(now) {
		s.leave(l, 0, "")
		s.send(l.From, func() string {
			data, _ := frame.Seal(api.Datagram{Kind: api.KdBye, Session: l.Session, Seq: l.Sent + 1}, keys[l.Player])
			return data
		})
	}
}

// keys are those of all sessions, by player: a session that is over has none any more, and its bye needs it.
func (s *Server) keys() [api.MaxSessions]string {
	var keys [api.MaxSessions]string
	for _, l := range s.lobby.Lives() {
		keys[l.Player], _ = s.lobby.Key(l.Session)
	}
	return keys
}

// snapshots sends each session what its player may see. A snapshot's number is used up only where there is room for it.
func (s *Server) snapshots() {
	views := s.views()
	for _, l := range s.lobby.Lives() {
		sent := s.send(l.From, func() string {
			key, _ := s.lobby.Key(l.Session)
			data, _ := snap.Make(l.Session, l.Sent+1, views[l.Player], key)
			return data
		})
		if sent {
			s.lobby.Sent(l.Session)
		}
	}
}

// views are what all players see, by player: one look at the arena does for all of them.
func (s *Server) views() [api.MaxSessions]api.View {
	var views [api.MaxSessions]api.View
	for _, v := range view.All(s.state, s.radius, s.show) {
		views[v.Own.Player] = v
	}
	return views
}
