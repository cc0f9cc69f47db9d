package referee_test

import (
	"encoding/binary"
	"strings"

	"joust/api"
	"joust/server"
)

// This file is a plain reading of the chapter: for each entry all that stand ahead of it are gone through again.

// folded is a name in small letters.
func folded(name string) string {
	return strings.Map(func(r rune) rune {
		if r >= 'A' && r <= 'Z' || r >= 0xC0 && r <= 0xDE && r != 0xD7 {
			return r + 32
		}
		return r
	}, name)
}

// plainData is a datagram as far as ledgers have some. Kind 0: it is none of these.
type plainData struct {
	kind         byte
	name         string
	session, seq uint64
}

func plainRead(s string) plainData {
	if len(s) < 52 || s[:3] != "J01" {
		return plainData{}
	}
	switch d := (plainData{kind: s[3]}); {
	case s[3] == 3 && len(s) >= 93 && len(s) == 93+int(s[60]):
		d.name = s[61 : len(s)-32]
		return d
	case s[3] == 5 && len(s) == 55 && s[22] <= 3, s[3] == 7 && len(s) == 52:
		d.session, d.seq = binary.BigEndian.Uint64([]byte(s[4:12])), binary.BigEndian.Uint64([]byte(s[12:20]))
		return d
	}
	return plainData{}
}

func plainSealed(s, key string) bool { return tagged(s[:len(s)-32], key) == s }

// plainSession is one that lives.
type plainSession struct {
	api.Entry // its join
	heard     uint64
	marked    map[uint64]bool
	high      uint64
	sixteenth int
	waits     bool
}

// plainPast is what stands behind entries of which none is at fault.
type plainPast struct {
	c        api.Config
	n        uint64
	sessions uint64
	lives    []*plainSession
	idle     bool // whether the last one was a leave by idleness
}

func pastOf(c api.Config, l []api.Entry) *plainPast {
	p := &plainPast{c: c}
	for _, x := range l {
		p.idle = x.Kind == api.LbLeave && x.Data == ""
		s := p.find(x.Session)
		switch x.Kind {
		case api.LbTick:
			p.n++
			for _, s := range p.lives {
				s.waits = false
				s.sixteenth = min(s.sixteenth+c.Rate, 16*c.Burst)
			}
		case api.LbJoin:
			p.sessions++
			p.lives = append(p.lives, &plainSession{Entry: x, heard: p.n, marked: map[uint64]bool{}, sixteenth: 16 * c.Burst})
		case api.LbCommand:
			s.marked[x.Seq] = true
			s.high = max(s.high, x.Seq)
			s.sixteenth -= 16
			s.heard, s.waits = p.n, true
		case api.LbLeave:
			var left []*plainSession
			for _, other := range p.lives {
				if other != s {
					left = append(left, other)
				}
			}
			p.lives = left
		}
	}
	return p
}

func (p *plainPast) find(session uint64) *plainSession {
	for _, s := range p.lives {
		if s.Session == session {
			return s
		}
	}
	return nil
}

func (p *plainPast) overdue(s *plainSession) bool { return int(p.n)+1-int(s.heard) > p.c.Idle }

func (p *plainPast) lowest() int {
	for n := 0; ; n++ {
		taken := false
		for _, s := range p.lives {
			taken = taken || s.Player == n
		}
		if !taken {
			return n
		}
	}
}

func plainJudge(c api.Config, keys func(uint64) (string, bool), l []api.Entry) (api.Finding, bool) {
	if _, e := server.New(c); e != api.OK {
		return api.Finding{Entry: -1, Code: e}, true
	}
	for i, x := range l {
		if e := pastOf(c, l[:i]).judge(keys, x); e != api.OK {
			return api.Finding{Entry: i, Code: e}, true
		}
	}
	return api.Finding{}, false
}

func (p *plainPast) judge(keys func(uint64) (string, bool), x api.Entry) api.Errno {
	alone := x.Kind == api.LbLeave && x.Data == ""
	if x.Kind < 1 || x.Kind > 4 || x.Tick != p.n {
		return api.ErrLedger
	}
	if p.idle && x.Kind != api.LbTick && !alone {
		return api.ErrLedger
	}
	switch x.Kind {
	case api.LbTick:
		return p.tick(x)
	case api.LbJoin:
		return p.join(x)
	case api.LbLeave:
		if alone {
			return p.alone(x)
		}
		e, _ := p.spoken(keys, x, 7)
		return e
	}
	return p.command(keys, x)
}

func (p *plainPast) tick(x api.Entry) api.Errno {
	if x.Session != 0 || x.Player != 0 || x.Name != "" || x.From != "" || x.Seq != 0 || x.Data != "" {
		return api.ErrLedger
	}
	for _, s := range p.lives {
		if p.overdue(s) {
			return api.ErrLedger
		}
	}
	return api.OK
}

func (p *plainPast) join(x api.Entry) api.Errno {
	d := plainRead(x.Data)
	if x.Seq != 0 || d.kind != 3 || d.name != x.Name {
		return api.ErrLedger
	}
	secret := ""
	for _, a := range p.c.Accounts {
		if folded(a.Name) == folded(x.Name) {
			secret = a.Secret
		}
	}
	if secret == "" {
		return api.ErrAccount
	}
	if !plainSealed(x.Data, secret) {
		return api.ErrTag
	}
	for _, s := range p.lives {
		if folded(s.Name) == folded(x.Name) {
			return api.ErrTaken
		}
	}
	if len(p.lives) == p.c.Sessions {
		return api.ErrFull
	}
	if x.Session != p.sessions+1 || x.Player != p.lowest() {
		return api.ErrLedger
	}
	return api.OK
}

// spoken judges what commands and byes have in common; with what of a command comes between, if between is api.OK.
func (p *plainPast) spoken(keys func(uint64) (string, bool), x api.Entry, kind byte) (last, between api.Errno) {
	d := plainRead(x.Data)
	if d.kind != kind || d.session != x.Session || d.seq != x.Seq {
		return api.ErrLedger, api.ErrLedger
	}
	s := p.find(x.Session)
	if s == nil {
		return api.ErrSession, api.ErrSession
	}
	key, known := keys(x.Session)
	if !known {
		return api.ErrSession, api.ErrSession
	}
	if x.From != s.From {
		return api.ErrSource, api.ErrSource
	}
	if !plainSealed(x.Data, key) {
		return api.ErrTag, api.ErrTag
	}
	if e := s.fresh(x.Seq); e != api.OK {
		return e, e
	}
	if x.Player != s.Player || x.Name != s.Name {
		return api.ErrLedger, api.OK
	}
	return api.OK, api.OK
}

func (s *plainSession) fresh(seq uint64) api.Errno {
	switch {
	case seq > s.high && seq-s.high > 64:
		return api.ErrFar
	case seq > s.high:
		return api.OK
	case seq == 0 || s.high-seq >= 64:
		return api.ErrOld
	case s.marked[seq]:
		return api.ErrSeen
	}
	return api.OK
}

func (p *plainPast) command(keys func(uint64) (string, bool), x api.Entry) api.Errno {
	last, between := p.spoken(keys, x, 5)
	if between != api.OK {
		return between
	}
	if s := p.find(x.Session); s.waits {
		return api.ErrExcess
	} else if s.sixteenth < 16 {
		return api.ErrRate
	}
	return last
}

func (p *plainPast) alone(x api.Entry) api.Errno {
	if x.Seq != 0 {
		return api.ErrLedger
	}
	s := p.find(x.Session)
	if s == nil {
		return api.ErrSession
	}
	if x.From != s.From || x.Player != s.Player || x.Name != s.Name || !p.overdue(s) {
		return api.ErrLedger
	}
	for _, other := range p.lives {
		if other.Session < x.Session && p.overdue(other) {
			return api.ErrLedger
		}
	}
	return api.OK
}
