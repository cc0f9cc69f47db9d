package shell

import (
	"cmp"
	"slices"

	"joust/api"
	"joust/board"
	"joust/client"
	"joust/mac"
	"joust/server"
)

// rounds is how often datagrams are carried at one time.
const rounds = 8

// match is a server, and the clients between whom and it all datagrams are carried.
type match struct {
	config  api.Config // with which the server was opened
	server  *server.Server
	keys    []string // of all sessions that ever were: number n has the place n - 1
	drivers []*driver
}

// driver is a client with its source, and what it sent last.
type driver struct {
	*client.Client
	name   string
	source string
	sent   string
}

// find gives the client of a name.
func (m *match) find(called string) *driver {
	i := m.place(called)
	if i < 0 {
		panic(api.ErrName)
	}
	return m.drivers[i]
}

func (m *match) place(called string) int {
	return slices.IndexFunc(m.drivers, func(d *driver) bool { return d.name == called })
}

// seat lets a client take the place of the one of its name, or come behind all.
func (m *match) seat(d *driver) {
	if i := m.place(d.name); i >= 0 {
		m.drivers[i] = d
		return
	}
	m.drivers = append(m.drivers, d)
}

// send lets a datagram come to the server. A session's key is told only while the session lives, so it is kept as soon as there is one.
func (m *match) send(from, data string) api.Errno {
	_, e := m.server.Do(api.Event{Kind: api.EvData, From: from, Data: data})
	if key, ok := m.server.Key(uint64(len(m.keys) + 1)); ok {
		m.keys = append(m.keys, key)
	}
	return e
}

// say lets a client send a datagram from its source.
func (m *match) say(d *driver, data string) api.Errno {
	d.sent = data
	return m.send(d.source, data)
}

// carry brings what the server sends to the clients, and back what they answer: which of the answers was refused last, and how.
func (m *match) carry() api.Errno {
	refused := api.OK
	for range rounds {
		out, _ := m.server.Do(api.Event{Kind: api.EvTake, N: api.MaxOutput})
		if len(out) == 0 {
			break
		}
		for _, x := range out {
			refused = cmp.Or(m.deliver(x), refused)
		}
	}
	return refused
}

// deliver brings a datagram to all clients of the source that it is sent to.
func (m *match) deliver(x api.Out) api.Errno {
	refused := api.OK
	for _, d := range m.drivers {
		if d.source != x.To {
			continue
		}
		if answer, _ := d.Hear(x.Data); answer != "" {
			refused = cmp.Or(m.say(d, answer), refused)
		}
	}
	return refused
}

// key tells that of any session that was, for the referee.
func (m *match) key(session uint64) (string, bool) {
	if session < 1 || session > uint64(len(m.keys)) {
		return "", false
	}
	return m.keys[session-1], true
}

// walls are the server's board, which it has not refused.
func (m *match) walls() *board.Board {
	b, _ := board.Parse(m.config.Board)
	return b
}

// nonce is a client's.
func nonce(called string) string { return mac.Tag("nonce", called)[:api.NonceLen] }
