package lobby

import (
	"strings"

	"joust/api"
	"joust/bucket"
	"joust/window"
)

// session is what is told of one that lives, and what is not: the account that plays, the key, and what judges commands. High is the window's.
type session struct {
	api.Live
	account int
	key     key
	window  window.Window
	bucket  bucket.Bucket
}

// tell is what is told of it, in memory that is not the session's.
func (s *session) tell() api.Live { return copyLive(s.Live) }

// accept takes a fresh number, and for a command a token. The bucket is asked last: where it refuses, nothing has changed, and where it gives, nothing is left to refuse.
func (s *session) accept(seq uint64, command bool, tick uint64) api.Errno {
	if e := s.window.Check(seq); e != api.OK {
		return e
	}
	if command {
		if e := s.bucket.Take(); e != api.OK {
			return e
		}
	}
	s.window.Mark(seq)
	s.High = s.window.High()
	s.Heard = tick
	return api.OK
}

// silent is how many ticks it was not heard: none, if it was heard at a later one. A difference can't wrap, as Heard and a bound on it could.
func (s *session) silent(tick uint64) uint64 { return max(tick, s.Heard) - s.Heard }

// copyLive has its own texts: a piece of a long one would keep all of it.
func copyLive(x api.Live) api.Live {
	x.Name, x.From = strings.Clone(x.Name), strings.Clone(x.From)
	return x
}
