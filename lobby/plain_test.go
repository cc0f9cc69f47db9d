package lobby_test

import (
	"encoding/binary"
	"fmt"
	"math"
	"math/big"
	"slices"
	"strings"
	"testing"
	"unicode"

	"joust/api"
	"joust/mac"
	"joust/name"
)

// plain is a lobby as the chapter tells it: a list of the sessions that live, in the order of their Joins.
type plain struct {
	c    api.Config
	next uint64
	list []*plainSession
}

// plainSession knows all seqs that were ever marked, and counts sixteenths of tokens.
type plainSession struct {
	live       api.Live
	account    string
	key        string
	marked     map[uint64]bool
	sixteenths int
}

func plainOf(c api.Config) *plain { return &plain{c: c, next: 1} }

func (p *plain) account(called string) (api.Account, bool) {
	for _, a := range p.c.Accounts {
		if name.Check(called) == api.OK && name.Same(called, a.Name) {
			return a, true
		}
	}
	return api.Account{}, false
}

func (p *plain) session(session uint64) *plainSession {
	for _, s := range p.list {
		if s.live.Session == session {
			return s
		}
	}
	return nil
}

func (p *plain) Secret(called string) (string, bool) {
	a, ok := p.account(called)
	return a.Secret, ok
}

func (p *plain) Join(from, nonce, salt, called string, tick uint64) (api.Live, api.Errno) {
	a, ok := p.account(called)
	if !ok {
		return api.Live{}, api.ErrAccount
	}
	players := map[int]bool{}
	for _, s := range p.list {
		if s.account == a.Name {
			return api.Live{}, api.ErrTaken
		}
		players[s.live.Player] = true
	}
	if len(p.list) == p.c.Sessions {
		return api.Live{}, api.ErrFull
	}
	s := &plainSession{
		live:       api.Live{Session: p.next, Name: called, From: from, Heard: tick},
		account:    a.Name,
		key:        mac.Derive(a.Secret, "session", nonce, salt, string(binary.BigEndian.AppendUint64(nil, p.next))),
		marked:     map[uint64]bool{},
		sixteenths: 16 * p.c.Burst,
	}
	for players[s.live.Player] {
		s.live.Player++
	}
	p.list = append(p.list, s)
	p.next++
	return s.live, api.OK
}

func (p *plain) Next() uint64 { return p.next }

func (p *plain) Key(session uint64) (string, bool) {
	if s := p.session(session); s != nil {
		return s.key, true
	}
	return "", false
}

func (p *plain) Find(session uint64, from string) (api.Live, api.Errno) {
	s := p.session(session)
	switch {
	case s == nil:
		return api.Live{}, api.ErrSession
	case s.live.From != from:
		return api.Live{}, api.ErrSource
	}
	return s.live, api.OK
}

func (p *plain) Check(session, seq uint64) api.Errno {
	s := p.session(session)
	if s == nil {
		return api.ErrSession
	}
	high := s.live.High
	switch {
	case seq > high && seq-high > 64:
		return api.ErrFar
	case seq == 0 || seq <= high && high-seq >= 64:
		return api.ErrOld
	case s.marked[seq]:
		return api.ErrSeen
	}
	return api.OK
}

func (p *plain) Token(session uint64) bool {
	s := p.session(session)
	return s != nil && s.sixteenths >= 16
}

func (p *plain) Accept(session, seq uint64, command bool, tick uint64) api.Errno {
	if e := p.Check(session, seq); e != api.OK {
		return e
	}
	if command && !p.Token(session) {
		return api.ErrRate
	}
	s := p.session(session)
	s.marked[seq] = true
	s.live.High = max(s.live.High, seq)
	s.live.Heard = tick
	if command {
		s.sixteenths -= 16
	}
	return api.OK
}

func (p *plain) Leave(session uint64) (api.Live, api.Errno) {
	s := p.session(session)
	if s == nil {
		return api.Live{}, api.ErrSession
	}
	p.list = slices.DeleteFunc(p.list, func(x *plainSession) bool { return x == s })
	return s.live, api.OK
}

func (p *plain) Expire(tick uint64) []api.Live {
	number := func(n uint64) *big.Int { return new(big.Int).SetUint64(n) }
	var left []api.Live
	for _, x := range p.Lives() {
		if end := new(big.Int).Add(number(x.Heard), number(uint64(p.c.Idle))); end.Cmp(number(tick)) < 0 {
			p.Leave(x.Session)
			left = append(left, x)
		}
	}
	return left
}

func (p *plain) Refill() {
	for _, s := range p.list {
		s.sixteenths = min(s.sixteenths+p.c.Rate, 16*p.c.Burst)
	}
}

func (p *plain) Sent(session uint64) (uint64, api.Errno) {
	s := p.session(session)
	if s == nil {
		return 0, api.ErrSession
	}
	s.live.Sent++
	return s.live.Sent, api.OK
}

func (p *plain) Lives() []api.Live {
	var lives []api.Live
	for _, s := range p.list {
		lives = append(lives, s.live)
	}
	return lives
}

// told is all that a lobby tells without a change: Next, who lives, their keys and tokens, and what of their seqs is fresh.
func told(l lobbies) string {
	var b strings.Builder
	fmt.Fprintf(&b, "Next %d", l.Next())
	for _, x := range l.Lives() {
		key, there := l.Key(x.Session)
		found, e := l.Find(x.Session, x.From)
		fmt.Fprintf(&b, "; %+v %x %v %v %v %v", x, key, there, l.Token(x.Session), found == x, e)
		for _, seq := range []uint64{0, 1, x.High - 64, x.High - 63, x.High - 1, x.High, x.High + 1, x.High + 64, x.High + 65} {
			fmt.Fprintf(&b, " %d", l.Check(x.Session, seq))
		}
	}
	return b.String()
}

// dice give numbers that look like chance and are the same in every run.
type dice uint64

func (d *dice) word() uint64 {
	*d ^= *d << 13
	*d ^= *d >> 7
	*d ^= *d << 17
	return uint64(*d) * 0x2545f4914f6cdd1d
}

func (d *dice) below(n int) int { return int(d.word() >> 20 % uint64(n)) }

// text is one of few short texts mostly, so that one comes again, and now and then any bytes.
func (d *dice) text() string {
	if d.below(4) > 0 {
		return []string{"", "x", "y", "x\x00", "192.0.2.1:7"}[d.below(5)]
	}
	b := make([]byte, d.below(40))
	for i := range b {
		b[i] = byte(d.word() >> 33)
	}
	return string(b)
}

// number is any uint64: small ones, those near both ends, and all others.
func (d *dice) number() uint64 {
	switch d.below(4) {
	case 0:
		return uint64(d.below(10))
	case 1:
		return math.MaxUint64 - uint64(d.below(10))
	}
	return d.word() >> d.below(64)
}

// player does calls that its dice tell, made for what its plain list says: so that most of them do something.
type player struct {
	dice
	*plain
	tick uint64
}

// name is an account's, in any letters; now and then one that no account has, or none.
func (d *player) name() string {
	if len(d.c.Accounts) == 0 || d.below(8) == 0 {
		return []string{"", "nobody", "a b", "\xff", "ann ", "player", "player00", strings.Repeat("a", 13)}[d.below(8)]
	}
	letters := []rune(d.c.Accounts[d.below(len(d.c.Accounts))].Name)
	for i, r := range letters {
		if small := r < 0x80 || 0xe0 <= r && r <= 0xfe; small && d.below(3) == 0 {
			letters[i] = unicode.ToUpper(r)
		}
	}
	return string(letters)
}

// session lives mostly; else it is one that was, the next one, 0, or any number.
func (d *player) session() uint64 {
	switch n := d.below(8); {
	case n == 0:
		return d.number()
	case n == 1 || len(d.list) == 0:
		return uint64(d.below(int(d.next) + 2))
	}
	return d.list[d.below(len(d.list))].live.Session
}

// seq is about what is fresh in a session mostly.
func (d *player) seq(session uint64) uint64 {
	high := uint64(0)
	if s := d.plain.session(session); s != nil {
		high = s.live.High
	}
	switch d.below(8) {
	case 0:
		return d.number()
	case 1:
		return high + 60 + uint64(d.below(10))
	case 2, 3:
		return high - min(high, uint64(d.below(70)))
	}
	return high + uint64(d.below(4))
}

// when is the time that goes on, mostly: now and then one a little ahead of it or behind it, or any number.
func (d *player) when() uint64 {
	switch d.below(12) {
	case 0:
		return d.number()
	case 1:
		return d.tick - min(d.tick, uint64(d.below(2*d.c.Idle+2)))
	case 2:
		return d.tick + uint64(d.below(2*d.c.Idle+2))
	}
	return d.tick
}

// call is the next one: what it is, and what a lobby answers to it.
func (d *player) call() (string, func(l lobbies) string) {
	session, tick := d.session(), d.when()
	seq, text := d.seq(session), d.text()
	switch n := d.below(40); {
	case n < 8:
		nonce, salt, called := d.text(), d.text(), d.name()
		return fmt.Sprintf("Join(%q, %q, %q, %q, %d)", text, nonce, salt, called, tick), func(l lobbies) string {
			x, e := l.Join(text, nonce, salt, called, tick)
			return fmt.Sprintf("%+v, %d", x, e)
		}
	case n < 22:
		command := d.below(4) > 0
		return fmt.Sprintf("Accept(%d, %d, %v, %d)", session, seq, command, tick), func(l lobbies) string {
			return fmt.Sprintf("%d", l.Accept(session, seq, command, tick))
		}
	case n < 26:
		d.tick++
		return "Refill()", func(l lobbies) string {
			l.Refill()
			return ""
		}
	}
	return d.otherCall(session, seq, tick, text)
}

// otherCall is one of those that leave, or change little.
func (d *player) otherCall(session, seq, tick uint64, text string) (string, func(l lobbies) string) {
	switch d.below(14) {
	case 0, 1:
		return fmt.Sprintf("Leave(%d)", session), func(l lobbies) string {
			x, e := l.Leave(session)
			return fmt.Sprintf("%+v, %d", x, e)
		}
	case 2:
		return fmt.Sprintf("Expire(%d)", tick), func(l lobbies) string { return fmt.Sprintf("%+v", l.Expire(tick)) }
	case 3, 4, 5:
		return fmt.Sprintf("Sent(%d)", session), func(l lobbies) string {
			x, e := l.Sent(session)
			return fmt.Sprintf("%d, %d", x, e)
		}
	case 6, 7:
		if s := d.plain.session(session); s != nil && d.below(2) == 0 {
			text = s.live.From
		}
		return fmt.Sprintf("Find(%d, %q)", session, text), func(l lobbies) string {
			x, e := l.Find(session, text)
			return fmt.Sprintf("%+v, %d", x, e)
		}
	case 8, 9:
		return fmt.Sprintf("Check(%d, %d)", session, seq), func(l lobbies) string { return fmt.Sprintf("%d", l.Check(session, seq)) }
	case 10:
		return fmt.Sprintf("Token(%d)", session), func(l lobbies) string { return fmt.Sprint(l.Token(session)) }
	case 11:
		return fmt.Sprintf("Key(%d)", session), func(l lobbies) string {
			key, ok := l.Key(session)
			return fmt.Sprintf("%x, %v", key, ok)
		}
	case 12:
		called := d.name()
		return fmt.Sprintf("Secret(%q)", called), func(l lobbies) string {
			s, ok := l.Secret(called)
			return fmt.Sprintf("%x, %v", s, ok)
		}
	}
	return "Lives(), Next()", func(l lobbies) string { return fmt.Sprintf("%+v, %d", l.Lives(), l.Next()) }
}

// wantBounds asks for P12.2 of those who live.
func wantBounds(t *testing.T, l lobbies, c api.Config) {
	t.Helper()
	lives := l.Lives()
	if len(lives) > c.Sessions {
		t.Fatalf("P12.2: %d sessions live of %d", len(lives), c.Sessions)
	}
	for i, x := range lives {
		if x.Player < 0 || x.Player >= c.Sessions || x.Session == 0 || x.Session >= l.Next() {
			t.Fatalf("P12.2: %+v lives, of %d, Next %d", x, c.Sessions, l.Next())
		}
		for _, y := range lives[:i] {
			if y.Player == x.Player || y.Session >= x.Session || name.Same(y.Name, x.Name) {
				t.Fatalf("P12.2: %+v lives beside %+v", x, y)
			}
		}
	}
}

// sameCalls does the same calls with a lobby and with a plain list, and holds all answers, and all that is told behind them, against each other; it counts the answers. With an even seed all accounts join first, as many as may.
func sameCalls(t *testing.T, seed int, c api.Config, calls int, answers map[string]int) {
	t.Helper()
	l := begun(t, c)
	d := &player{dice: dice(seed*7919 + 1), plain: plainOf(c), tick: uint64(seed % 3 * 5)}
	if seed%5 == 0 {
		d.tick = math.MaxUint64 - uint64(calls/8)
	}
	for i, a := range c.Accounts[:len(c.Accounts)*(1-seed%2)] {
		for _, x := range []lobbies{l, d.plain} {
			x.Join(fmt.Sprint(i), "n", "s", a.Name, d.tick)
		}
	}
	var rows []string
	for i := range calls {
		what, call := d.call()
		ahead := told(d.plain)
		want, got := call(d.plain), call(l)
		rows = append(rows, what+" = "+want)
		wantTold := told(d.plain)
		if gotTold := told(l); got != want || gotTold != wantTold {
			t.Fatalf("seed %d, call %d: %s = %s, want %s; the lobby tells\n%s, want\n%s; ahead of it %s, then\n%s", seed, i, what, got, want, gotTold, wantTold, ahead, strings.Join(rows[max(0, i-9):], "\n"))
		}
		wantBounds(t, l, c)
		verb, _, _ := strings.Cut(what, "(")
		answers[verb+" "+outcome(want)]++
	}
}

// outcome is an answer without its numbers: the error that it ends with, or what else tells two answers apart.
func outcome(answer string) string {
	if i := strings.LastIndex(answer, ", "); i >= 0 && !strings.HasPrefix(answer, "[") {
		return answer[i+2:]
	}
	return answer[:min(3, len(answer))]
}

// someConfigs are of few and many sessions, fewer accounts than sessions and more, and rates, bursts and idleness at both ends.
func someConfigs() []api.Config {
	var list []api.Config
	for i, sessions := range []int{1, 2, 3, 5, 31, 32} {
		for k, accounts := range []int{0, 1, 2, 4, 40, 64} {
			c := api.Config{
				Sessions: sessions,
				Accounts: many(accounts),
				Rate:     []int{0, 1, 8, 16, 20, 1000}[(i+k)%6],
				Burst:    []int{1, 2, 3, 1000}[(i+2*k)%4],
				Idle:     []int{1, 3, 20, 100000}[(2*i+k)%4],
			}
			for n := range min(3, accounts) {
				c.Accounts[n].Name = []string{"ann", "ötzi-ß", "æøå_ωα9"}[n]
			}
			list = append(list, c)
		}
	}
	return list
}

// P12.1, P12.2, R12, R13: any calls in any order, with any numbers and texts, answer as a plain list does, and leave all as it does: so with an error nothing has changed.
func TestAnyCalls(t *testing.T) {
	answers := map[string]int{}
	for i, c := range someConfigs() {
		seeds, calls := 6, 300
		if testing.Short() {
			seeds = 1
		}
		for seed := range seeds {
			sameCalls(t, 100*i+seed, c, calls, answers)
		}
	}
	if testing.Short() {
		return
	}
	for what, least := range map[string]int{
		"Join 0": 2000, "Join 120": 1000, "Join 121": 1000, "Join 111": 1000,
		"Accept 0": 5000, "Accept 122": 3000, "Accept 90": 500, "Accept 91": 300, "Accept 92": 500, "Accept 80": 500,
		"Check 0": 500, "Check 122": 300, "Check 90": 100, "Check 91": 30, "Check 92": 100,
		"Find 0": 300, "Find 122": 300, "Find 123": 300, "Leave 0": 1000, "Leave 122": 300, "Sent 0": 1000, "Sent 122": 300,
		"Expire []": 300, "Expire [{S": 300, "Key true": 300, "Key false": 100, "Token tru": 300, "Token fal": 300, "Secret true": 300, "Secret false": 100,
	} {
		if answers[what] < least {
			t.Errorf("the calls try too little: %q %d times, want %d; %v", what, answers[what], least, answers)
		}
	}
}

// someCalls are those that may change something, of few sessions; each tells what was answered.
func someCalls() []func(l lobbies) string {
	var calls []func(l lobbies) string
	for i, called := range []string{"ann", "Bob", "cy"} {
		session := uint64(i + 1)
		calls = append(calls, func(l lobbies) string {
			x, e := l.Join("x", "n", "s", called, session)
			return fmt.Sprint("Join ", x, int(e))
		})
		if i == 2 {
			break
		}
		calls = append(calls,
			func(l lobbies) string { x, e := l.Leave(session); return fmt.Sprint("Leave ", x, int(e)) },
			func(l lobbies) string { return fmt.Sprint("Accept 1 ", int(l.Accept(session, 1, true, 3))) },
			func(l lobbies) string { return fmt.Sprint("Accept 2 ", int(l.Accept(session, 2, i == 0, 1))) })
	}
	return append(calls,
		func(l lobbies) string { l.Refill(); return "Refill" },
		func(l lobbies) string { return fmt.Sprint("Expire 3 ", l.Expire(3)) },
		func(l lobbies) string { return fmt.Sprint("Expire 5 ", l.Expire(5)) },
		func(l lobbies) string { x, e := l.Sent(2); return fmt.Sprint("Sent ", x, int(e)) })
}

// P12.1: every row of so many calls, in lobbies for one and two sessions, from none on and from two on. A row's beginnings are rows too, so only its last call is held against the plain list's.
func TestEveryRowOfCalls(t *testing.T) {
	calls, most := someCalls(), 4
	if testing.Short() {
		most = 2
	}
	c := config()
	c.Burst, c.Idle = 1, 1
	for sessions := 1; sessions <= 2; sessions++ {
		c.Sessions = sessions
		for begin := range 2 {
			rows := 1
			for length := 1; length <= most; length++ {
				rows *= len(calls)
				for row := range rows {
					l, p := begun(t, c), plainOf(c)
					var got, want string
					for _, x := range []struct {
						lobbies
						answer *string
					}{{l, &got}, {p, &want}} {
						for i := range 2 * begin {
							calls[4*i](x)
						}
						for step, rest := 0, row; step < length; step, rest = step+1, rest/len(calls) {
							*x.answer = calls[rest%len(calls)](x)
						}
					}
					if got != want || told(l) != told(p) {
						t.Fatalf("%d sessions, begin %d, row %d of %d calls: %s, %s; want %s, %s", sessions, begin, row, length, got, told(l), want, told(p))
					}
				}
			}
		}
	}
}
