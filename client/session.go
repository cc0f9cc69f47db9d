package client

import (
	"joust/api"
	"joust/frame"
	"joust/mac"
)

// session that a client has. A session's number is above 0, so the zero one is none.
type session struct {
	number   uint64
	player   int
	key      string
	sealed   uint64 // how many datagrams were sealed
	believed uint64 // the seq of the last datagram that was believed
}

func (s *session) lives() bool { return s.number > 0 }

// seal makes a datagram of the session's own, with the next seq, which is used up only if there is one.
func (s *session) seal(d api.Datagram) (string, api.Errno) {
	if !s.lives() {
		return "", api.ErrState
	}
	d.Session, d.Seq = s.number, s.sealed+1
	data, e := frame.Seal(d, s.key)
	if e != api.OK {
		return "", e
	}
	s.sealed++
	return data, api.OK
}

// judge tells whether a datagram of the server may be believed.
func (s *session) judge(h heard) api.Errno {
	switch {
	case h.Session != s.number:
		return api.ErrState
	case !frame.Sealed(h.data, s.key):
		return api.ErrTag
	case h.Seq <= s.believed:
		return api.ErrStale
	}
	return api.OK
}

// sessionKey is the key that the server has made too, out of what both know.
func sessionKey(secret, nonce, salt string, session uint64) string {
	var number [8]byte
	for i := range number {
		number[i] = byte(session >> (56 - 8*i))
	}
	return mac.Derive(secret, "session", nonce, salt, string(number[:]))
}
