package referee

import (
	"joust/api"
	"joust/bucket"
	"joust/window"
)

// session is one that lives. The bucket begins as a copy of the full one.
type session struct {
	who    who
	heard  uint64
	window window.Window
	bucket bucket.Bucket
	waits  bool // whether a command of it does
}

// who is what all entries of a session have in common.
type who struct {
	session    uint64
	player     int
	name, from string
}

func whoOf(x api.Entry) who { return who{x.Session, x.Player, x.Name, x.From} }

// isIdle tells whether an entry is a leave by idleness: no datagram was there.
func isIdle(x api.Entry) bool { return x.Kind == api.LbLeave && x.Data == "" }
