package client

import (
	"joust/api"
	"joust/frame"
	"joust/snap"
)

// heard is a datagram as it came, and taken apart.
type heard struct {
	data string
	api.Datagram
}

// silent hears nothing: whoever has not said hello was promised no answer.
func (c *Client) silent(heard) (string, api.Errno) { return "", api.ErrState }

// greeted hears what answers its hello. That stays so behind a session's end: a hello need not be said again.
func (c *Client) greeted(h heard) (string, api.Errno) {
	own := h.Nonce == c.nonce
	switch {
	case own && h.Kind == api.KdCookie:
		return c.connect(h)
	case own && h.Kind == api.KdWelcome:
		return "", c.begin(h)
	}
	return "", api.ErrState
}

// playing hears what its session's server sends.
func (c *Client) playing(h heard) (string, api.Errno) {
	switch h.Kind {
	case api.KdSnapshot:
		return "", c.look(h)
	case api.KdBye:
		return "", c.dismiss(h)
	}
	return "", api.ErrState
}

// connect echoes a cookie. Whose it is, only its server can tell, so nothing is kept of it: a false one must not stand in the right one's way.
func (c *Client) connect(h heard) (string, api.Errno) {
	return frame.Seal(api.Datagram{
		Kind:   api.KdConnect,
		Nonce:  c.nonce,
		Epoch:  h.Epoch,
		Cookie: h.Cookie,
		Name:   c.name,
	}, c.secret)
}

// begin has the session of a welcome. Numbers rise, so one that is not above all earlier ones is a copy, though its tag is right.
func (c *Client) begin(h heard) api.Errno {
	if h.Session <= c.greatest {
		return api.ErrStale
	}
	key := sessionKey(c.secret, c.nonce, h.Salt, h.Session)
	if !frame.Sealed(h.data, key) {
		return api.ErrTag
	}
	c.session = session{number: h.Session, player: h.Player, key: key}
	c.greatest = h.Session
	c.next = (*Client).playing
	return api.OK
}

// look believes a snapshot. One that does not read leaves its seq for another.
func (c *Client) look(h heard) api.Errno {
	if e := c.session.judge(h); e != api.OK {
		return e
	}
	if _, e := snap.Read(h.Data); e != api.OK {
		return e
	}
	c.view = h.Data
	c.session.believed = h.Seq
	return api.OK
}

// dismiss believes the server's bye.
func (c *Client) dismiss(h heard) api.Errno {
	if e := c.session.judge(h); e != api.OK {
		return e
	}
	c.end()
	return api.OK
}

// end forgets the session, its key too. What it saw last stays.
func (c *Client) end() {
	c.session = session{}
	c.next = (*Client).greeted
}
