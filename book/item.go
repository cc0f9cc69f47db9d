package book

import (
	"iter"

	"joust/api"
	"joust/frame"
	"joust/name"
)

// item is an entry with what it is held against, so that the ledger need not be looked at again.
type item struct {
	api.Entry
	behind   uint64       // how many ticks stand ahead of it in the ledger
	datagram api.Datagram // what Data says; the zero one, which is of no kind, if Data is no datagram
}

// items goes through a ledger's entries.
func items(l []api.Entry) iter.Seq[item] {
	return func(yield func(item) bool) {
		ticks := uint64(0)
		for _, x := range l {
			d, _ := frame.Decode(x.Data)
			if !yield(item{x, ticks, d}) {
				return
			}
			if x.Kind == api.LbTick {
				ticks++
			}
		}
	}
}

// formed tells whether an item is as its kind must be, whatever sessions are there.
func (x item) formed() bool {
	if x.Tick != x.behind {
		return false
	}
	switch x.Kind {
	case api.LbJoin:
		return isPlayer(x.Player) && name.Check(x.Name) == api.OK && x.Seq == 0 && x.isConnect()
	case api.LbLeave:
		return x.isIdle() || x.says(api.KdBye)
	case api.LbTick:
		return x.Entry == api.Entry{Kind: api.LbTick, Tick: x.Tick}
	case api.LbCommand:
		return x.says(api.KdCommand)
	}
	return false
}

func (x item) isConnect() bool {
	return x.datagram.Kind == api.KdConnect && x.datagram.Name == x.Name
}

// isIdle tells whether a leave came without a datagram.
func (x item) isIdle() bool { return x.Data == "" && x.Seq == 0 }

// says tells whether the datagram is of a kind, with the entry's own numbers.
func (x item) says(kind int) bool {
	d := x.datagram
	return d.Kind == kind && d.Session == x.Session && d.Seq == x.Seq
}

func isPlayer(player int) bool { return player >= 0 && player < api.MaxSessions }
