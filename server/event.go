package server

import (
	"strings"

	"joust/api"
	"joust/mac"
	"joust/rule"
)

// chance is how many bytes a seed has, and a draw.
const chance = 32

// deed tells what an event of a kind does.
func deed(kind int) func(*Server, api.Event) ([]api.Out, api.Errno) {
	switch kind {
	case api.EvData:
		return (*Server).data
	case api.EvTick:
		return (*Server).tick
	case api.EvDraw:
		return (*Server).draw
	case api.EvTake:
		return (*Server).take
	}
	return (*Server).unknown
}

func (s *Server) unknown(api.Event) ([]api.Out, api.Errno) { return nil, api.ErrEvent }

// draw stirs chance into the pool.
func (s *Server) draw(e api.Event) ([]api.Out, api.Errno) {
	if len(e.Data) != chance {
		s.counts.Ignored++
		return nil, api.OK
	}
	s.pool = mac.Derive(s.pool, "draw", e.Data)
	return nil, api.OK
}

// take takes datagrams out of the queue.
func (s *Server) take(e api.Event) ([]api.Out, api.Errno) {
	if e.N < 0 {
		s.counts.Ignored++
		return nil, api.OK
	}
	return s.queue.Take(e.N), api.OK
}

// send lays a datagram at the queue's end, and tells whether there was room. One without room is not even made, so that a flood of hellos costs next to nothing behind a full queue.
func (s *Server) send(to string, data func() string) bool {
	if s.queue.Room() == 0 {
		s.counts.Dropped++
		return false
	}
	s.queue.Push(api.Out{To: strings.Clone(to), Data: data()})
	return true
}

// enter writes into the ledger what was accepted of a session; of a tick there is none. It comes ahead of what the label does, since an entry tells how many ticks are behind it.
func (s *Server) enter(kind int, l api.Live, seq uint64, data string) {
	s.ledger = append(s.ledger, api.Entry{
		Kind:    kind,
		Tick:    s.state.Tick,
		Session: l.Session,
		Player:  l.Player,
		Name:    l.Name,
		From:    l.From,
		Seq:     seq,
		Data:    strings.Clone(data),
	})
}

// follow lets the Rulebook step. It refuses none of a server's labels: a session's player has a car from its join to its leave, and the gate's intents are legal and of sessions that live.
func (s *Server) follow(l api.Label) { s.state, _ = rule.Step(s.board, s.state, l) }
