package demo

import (
	"strings"

	"joust/api"
	"joust/board"
	"joust/rule"
)

// moment is the arena ahead of a label. Its cars stand there without their names: nothing that the Rulebook does hangs on them, and it would copy them, however long they are, at each label.
type moment struct {
	next  int // the label's place in the list
	arena api.State
	names [api.MaxSessions]string // of the players, as they joined
}

func (m *moment) tick() uint64 { return m.arena.Tick }

// step goes behind the next label, if the Rulebook takes it. The arena is a new one then: who keeps the moment that was keeps it as it was.
func (m *moment) step(b *board.Board, l api.Label) api.Errno {
	bare := l
	if l.Kind == api.LbJoin {
		bare.Name = "" // a join may have any; of other labels the Rulebook asks whether they have one
	}
	arena, e := rule.Step(b, m.arena, bare)
	if e != api.OK {
		return e
	}
	if l.Kind == api.LbJoin {
		m.names[l.Player] = l.Name
	}
	m.arena = arena
	m.next++
	return api.OK
}

// told is the arena in memory of its own, its cars with their names.
func (m *moment) told() api.State {
	s := rule.Copy(m.arena)
	for i := range s.Cars {
		s.Cars[i].Name = strings.Clone(m.names[s.Cars[i].Player])
	}
	return s
}
