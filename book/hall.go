package book

import (
	"strings"

	"joust/api"
	"joust/gate"
	"joust/name"
)

// hall has a seat for each player, and the highest number that a session had so far.
type hall struct {
	seats [api.MaxSessions]seat
	last  uint64
}

// seat is where a player's session sits. Its command's intent waits till a tick takes it, or goes with the session.
type seat struct {
	taken  bool
	who    who
	waits  bool
	intent api.Intent
}

// who is what all entries of a session have in common.
type who struct {
	session    uint64
	player     int
	name, from string
}

func whoOf(x item) who { return who{x.Session, x.Player, x.Name, x.From} }

// admits tells whether an item that is formed may come now.
func (h *hall) admits(x item) bool {
	switch x.Kind {
	case api.LbJoin:
		return x.Session > h.last && !h.seats[x.Player].taken && !h.hears(x.Name)
	case api.LbLeave:
		return h.has(x)
	case api.LbCommand:
		return h.has(x) && !h.seats[x.Player].waits
	}
	return true
}

// follow lets an item come that is admitted, and tells its label; a command has none.
func (h *hall) follow(x item) (api.Label, bool) {
	switch x.Kind {
	case api.LbJoin:
		h.last = x.Session
		h.seats[x.Player] = seat{taken: true, who: whoOf(x)}
		return api.Label{Kind: api.LbJoin, Player: x.Player, Name: strings.Clone(x.Name)}, true
	case api.LbLeave:
		h.seats[x.Player] = seat{}
		return api.Label{Kind: api.LbLeave, Player: x.Player}, true
	case api.LbTick:
		return api.Label{Kind: api.LbTick, Intents: h.gather()}, true
	}
	s := &h.seats[x.Player]
	s.waits, s.intent = true, gate.Legal(x.Player, x.datagram.Command)
	return api.Label{}, false
}

// has tells whether the session of an item is there. A seat that nobody has taken is like a session 0 without a name: it must be asked, too.
func (h *hall) has(x item) bool {
	return isPlayer(x.Player) && h.seats[x.Player].taken && h.seats[x.Player].who == whoOf(x)
}

// hears tells whether somebody is there who answers to a name.
func (h *hall) hears(called string) bool {
	heard := false
	h.each(func(s *seat) { heard = heard || name.Same(s.who.name, called) })
	return heard
}

// gather takes the intents that wait, by Player.
func (h *hall) gather() []api.Intent {
	var intents []api.Intent
	h.each(func(s *seat) {
		if s.waits {
			intents = append(intents, s.intent)
			s.waits = false
		}
	})
	return intents
}

// each goes through the seats that are taken, by Player.
func (h *hall) each(do func(s *seat)) {
	for i := range h.seats {
		if h.seats[i].taken {
			do(&h.seats[i])
		}
	}
}
