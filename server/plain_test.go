package server_test

import (
	"crypto/hmac"
	"crypto/sha256"
	"encoding/binary"
	"slices"
	"strings"
	"testing"

	"joust/api"
	"joust/board"
	"joust/name"
	"joust/rule"
	"joust/snap"
	"joust/view"
)

// plain is a server as the document tells it (R3 to R7, R10), over bytes, with the library's HMAC. Names, the Rulebook, views and their bytes are those of the layers below, which have tests of their own.
type plain struct {
	c       api.Config
	walls   *board.Board
	number  uint64   // of ticks
	secrets []string // of all epochs that began: the last one is the current one's
	pool    string
	next    uint64
	list    []*plainSession // those that live, by their numbers
	sources []*plainSource  // the one longest unused first
	waits   map[int]api.Intent
	arena   api.State
	ledger  []api.Entry
	queue   []api.Out
	counts  api.Counts
}

type plainSession struct {
	live       api.Live
	account    int
	key        string
	marked     map[uint64]bool
	sixteenths int
}

type plainSource struct {
	from       string
	sixteenths int
}

func plainOf(t *testing.T, c api.Config) *plain {
	t.Helper()
	walls, e := board.Parse(c.Board)
	if e != api.OK {
		t.Fatal(e)
	}
	pool := derive(c.Seed, "pool")
	return &plain{c: c, walls: walls, secrets: []string{derive(pool, "cookie")}, pool: pool, next: 1, waits: map[int]api.Intent{}}
}

// tag is HMAC with SHA-256.
func tag(key, text string) string {
	h := hmac.New(sha256.New, []byte(key))
	h.Write([]byte(text))
	return string(h.Sum(nil))
}

func eight(x uint64) string { return string(binary.BigEndian.AppendUint64(nil, x)) }

func number(s string) uint64 { return binary.BigEndian.Uint64([]byte(s)) }

// derive is R4's.
func derive(secret, use string, parts ...string) string {
	text := use + "\x00"
	for _, x := range parts {
		text += eight(uint64(len(x))) + x
	}
	return tag(secret, text)
}

// form is what frame refuses of R6's first row.
func form(data string) api.Errno {
	switch {
	case len(data) > 1200:
		return api.ErrLength
	case !strings.HasPrefix(data, "J01"):
		return api.ErrMagic
	case len(data) < 4 || data[3] < 1 || data[3] > 7:
		return api.ErrKind
	}
	length := []int{0, 96, 60, 93, 77, 55, 52, 52}[data[3]]
	switch {
	case len(data) < length:
		return api.ErrLength
	case data[3] == 3 && len(data) != length+int(data[60]), data[3] != 3 && data[3] != 6 && len(data) != length:
		return api.ErrLength
	case data[3] == 1 && strings.Trim(data[20:], "\x00") != "", data[3] == 5 && data[22] > 3:
		return api.ErrField
	}
	return api.OK
}

func (p *plain) send(to, data string) bool {
	if len(p.queue) == p.c.Output {
		p.counts.Dropped++
		return false
	}
	p.queue = append(p.queue, api.Out{To: to, Data: data})
	return true
}

func (p *plain) sealed(to, body, key string) bool { return p.send(to, body+tag(key, body)) }

func (p *plain) step(l api.Label) {
	next, e := rule.Step(p.walls, p.arena, l)
	if e != api.OK {
		panic(e)
	}
	p.arena = next
}

func (p *plain) enter(kind int, l api.Live, seq uint64, data string) {
	ticks := uint64(0)
	for _, x := range p.ledger {
		if x.Kind == api.LbTick {
			ticks++
		}
	}
	p.ledger = append(p.ledger, api.Entry{Kind: kind, Tick: ticks, Session: l.Session, Player: l.Player, Name: l.Name, From: l.From, Seq: seq, Data: data})
}

func (p *plain) Do(e api.Event) ([]api.Out, api.Errno) {
	switch e.Kind {
	case 1:
		refused := p.data(e.From, e.Data)
		if refused != api.OK {
			p.counts.Refused++
		}
		return nil, refused
	case 2:
		p.tick()
	case 3:
		if len(e.Data) != 32 {
			p.counts.Ignored++
		} else {
			p.pool = derive(p.pool, "draw", e.Data)
		}
	case 4:
		if e.N < 0 {
			p.counts.Ignored++
			return nil, api.OK
		}
		n := min(e.N, len(p.queue))
		taken := p.queue[:n:n]
		p.queue = slices.Clone(p.queue[n:])
		return taken, api.OK
	default:
		return nil, api.ErrEvent
	}
	return nil, api.OK
}

func (p *plain) data(from, data string) api.Errno {
	if e := form(data); e != api.OK {
		return e
	}
	switch data[3] {
	case 1:
		p.counts.Hellos++
		epoch, nonce := uint64(len(p.secrets)), data[4:20]
		p.send(from, "J01\x02"+nonce+eight(epoch)+p.cookie(epoch, from, nonce))
		return api.OK
	case 3:
		return p.connect(from, data)
	case 5, 7:
		return p.sessions(from, data)
	}
	return api.ErrKind
}

// cookie is the one of an epoch, also of one that is long over; of none there is none.
func (p *plain) cookie(epoch uint64, from, nonce string) string {
	if epoch < 1 || epoch > uint64(len(p.secrets)) {
		return strings.Repeat("?", 32)
	}
	return derive(p.secrets[epoch-1], "cookie", from, nonce, eight(epoch))
}

// source finds a source, and makes it the last in the order of use.
func (p *plain) source(from string) *plainSource {
	found := &plainSource{from, 16 * p.c.SourceBurst}
	i := slices.IndexFunc(p.sources, func(x *plainSource) bool { return x.from == from })
	if i >= 0 {
		found = p.sources[i]
		p.sources = slices.Delete(p.sources, i, i+1)
	} else if len(p.sources) == 64 {
		p.sources = slices.Delete(p.sources, 0, 1)
	}
	p.sources = append(p.sources, found)
	return found
}

func (p *plain) connect(from, data string) api.Errno {
	nonce, epoch, cookie, called := data[4:20], number(data[20:28]), data[28:60], data[61:len(data)-32]
	now := uint64(len(p.secrets))
	if epoch == 0 || epoch != now && epoch != now-1 {
		return api.ErrEpoch
	}
	if cookie != p.cookie(epoch, from, nonce) {
		return api.ErrCookie
	}
	x := p.source(from)
	if x.sixteenths < 16 {
		return api.ErrRate
	}
	x.sixteenths -= 16
	account := slices.IndexFunc(p.c.Accounts, func(a api.Account) bool { return name.Check(called) == api.OK && name.Same(a.Name, called) })
	if account < 0 {
		return api.ErrAccount
	}
	secret := p.c.Accounts[account].Secret
	if data[len(data)-32:] != tag(secret, data[:len(data)-32]) {
		return api.ErrTag
	}
	players := map[int]bool{}
	for _, s := range p.list {
		if s.account == account {
			return api.ErrTaken
		}
		players[s.live.Player] = true
	}
	if len(p.list) == p.c.Sessions {
		return api.ErrFull
	}
	salt := derive(p.pool, "salt", eight(p.next))[:16]
	s := &plainSession{live: api.Live{Session: p.next, Name: called, From: from, Heard: p.number}, account: account, key: derive(secret, "session", nonce, salt, eight(p.next)), marked: map[uint64]bool{}, sixteenths: 16 * p.c.Burst}
	for players[s.live.Player] {
		s.live.Player++
	}
	p.next++
	p.list = append(p.list, s)
	p.sealed(from, "J01\x04"+nonce+eight(s.live.Session)+string([]byte{byte(s.live.Player)})+salt, s.key)
	p.enter(api.LbJoin, s.live, 0, data)
	p.step(api.Label{Kind: api.LbJoin, Player: s.live.Player, Name: called})
	p.counts.Accepted++
	return api.OK
}

// sessions is what commands and byes have in common.
func (p *plain) sessions(from, data string) api.Errno {
	session, seq := number(data[4:12]), number(data[12:20])
	i := slices.IndexFunc(p.list, func(x *plainSession) bool { return x.live.Session == session })
	if i < 0 {
		return api.ErrSession
	}
	s := p.list[i]
	if s.live.From != from {
		return api.ErrSource
	}
	if data[len(data)-32:] != tag(s.key, data[:len(data)-32]) {
		return api.ErrTag
	}
	if e := s.fresh(seq); e != api.OK {
		return e
	}
	if data[3] == 5 {
		return p.command(s, seq, data)
	}
	p.leave(s, seq, data)
	p.counts.Accepted++
	return api.OK
}

// fresh is R7.
func (s *plainSession) fresh(seq uint64) api.Errno {
	high := s.live.High
	switch {
	case seq > high && seq-high > 64:
		return api.ErrFar
	case seq == 0 || seq <= high && high-seq >= 64:
		return api.ErrOld
	case s.marked[seq]:
		return api.ErrSeen
	}
	return api.OK
}

func (p *plain) command(s *plainSession, seq uint64, data string) api.Errno {
	if _, waits := p.waits[s.live.Player]; waits {
		return api.ErrExcess
	}
	if s.sixteenths < 16 {
		return api.ErrRate
	}
	s.sixteenths -= 16
	s.marked[seq] = true
	s.live.High = max(s.live.High, seq)
	s.live.Heard = p.number
	throttle, turn := int(int8(data[20])), int(int8(data[21]))
	p.waits[s.live.Player] = api.Intent{Player: s.live.Player, Throttle: max(-100, min(throttle, 100)), Turn: max(-8, min(turn, 8)), Fire: data[22]&1 != 0, Boost: data[22]&2 != 0}
	p.enter(api.LbCommand, s.live, seq, data)
	p.counts.Accepted++
	return api.OK
}

func (p *plain) leave(s *plainSession, seq uint64, data string) {
	p.list = slices.DeleteFunc(slices.Clone(p.list), func(x *plainSession) bool { return x == s })
	delete(p.waits, s.live.Player)
	p.enter(api.LbLeave, s.live, seq, data)
	p.step(api.Label{Kind: api.LbLeave, Player: s.live.Player})
}

// tick is R5, line by line.
func (p *plain) tick() {
	p.number++
	if p.number%uint64(p.c.Life) == 0 {
		p.secrets = append(p.secrets, derive(p.secrets[len(p.secrets)-1], "turn", p.pool))
	}
	for _, s := range slices.Clone(p.list) {
		if p.number-s.live.Heard > uint64(p.c.Idle) {
			p.leave(s, 0, "")
			p.sealed(s.live.From, "J01\x07"+eight(s.live.Session)+eight(s.live.Sent+1), s.key)
		}
	}
	var intents []api.Intent
	for player := range 32 {
		if x, ok := p.waits[player]; ok {
			intents = append(intents, x)
		}
	}
	clear(p.waits)
	p.enter(api.LbTick, api.Live{}, 0, "")
	p.step(api.Label{Kind: api.LbTick, Intents: intents})
	for _, s := range p.list {
		s.sixteenths = min(s.sixteenths+p.c.Rate, 16*p.c.Burst)
	}
	for _, x := range p.sources {
		x.sixteenths = min(x.sixteenths+p.c.SourceRate, 16*p.c.SourceBurst)
	}
	for _, s := range p.list {
		v, e := view.Of(p.arena, s.live.Player, p.c.Radius, p.c.Show)
		text, f := snap.Write(v)
		if e != api.OK || f != api.OK {
			panic("no view")
		}
		if p.sealed(s.live.From, "J01\x06"+eight(s.live.Session)+eight(s.live.Sent+1)+text, s.key) {
			s.live.Sent++
		}
	}
}

func (p *plain) State() api.State { return p.arena }

func (p *plain) Ledger() []api.Entry { return p.ledger }

func (p *plain) Lives() []api.Live {
	var list []api.Live
	for _, s := range p.list {
		list = append(list, s.live)
	}
	return list
}

func (p *plain) Key(session uint64) (string, bool) {
	for _, s := range p.list {
		if s.live.Session == session {
			return s.key, true
		}
	}
	return "", false
}

func (p *plain) Waiting() []api.Out { return p.queue }

func (p *plain) Counts() api.Counts { return p.counts }

func (p *plain) Epoch() uint64 { return uint64(len(p.secrets)) }
