package server_test

import (
	"math"
	"strings"
	"testing"

	"joust/api"
)

// dice give numbers that look like chance and are the same in every run.
type dice uint64

func (d *dice) word() uint64 {
	*d ^= *d << 13
	*d ^= *d >> 7
	*d ^= *d << 17
	return uint64(*d) * 0x2545f4914f6cdd1d
}

func (d *dice) below(n int) int { return int(d.word() >> 20 % uint64(n)) }

func (d *dice) within(least, most int) int { return least + d.below(most-least+1) }

func (d *dice) one(n int) bool { return d.below(n) == 0 }

func (d *dice) bytes(n int) string {
	b := make([]byte, n)
	for i := range b {
		b[i] = byte(d.word() >> 20)
	}
	return string(b)
}

func pick[T any](d *dice, list ...T) T { return list[d.below(len(list))] }

var rep = strings.Repeat

// boards on which scripts are played: chapter 17's, a bare one, one with walls and much to fetch, and a narrow one on which all meet.
var boards = []string{
	"#####\n#S.E#\n#...#\n#A.S#\n#####\n",
	"#####\n#.S.#\n#####",
	"##########\n#S.......#\n#..##..E.#\n#..##..A.#\n#S......S#\n#EEAA....#\n#....#...#\n#S...#..S#\n##########\n",
	"########\n#SSSSSS#\n########\n",
}

var accounts = []api.Account{
	{Name: "ann", Secret: rep("a", 32)},
	{Name: "bob", Secret: rep("b", 32)},
	{Name: "Cy_9", Secret: rep("\x00", 32)},
	{Name: "D\u00e4n", Secret: rep("\xff", 32)},
	{Name: "abcdefghijkl", Secret: "0123456789abcdefghijklmnopqrstuv"},
	{Name: "\u03b1\u03b2\u03b3", Secret: rep("g\n", 16)},
}

// config gives one that may be, with small numbers, so that all bounds are met within few events.
func (d *dice) config() api.Config {
	return api.Config{
		Sessions:    pick(d, 1, 2, 2, 3, 3, 5, 32),
		Output:      pick(d, 1, 2, 3, 8, 8, 20, 256),
		Rate:        pick(d, 0, 1, 5, 16, 16, 24, 1000),
		Burst:       pick(d, 1, 2, 3, 10, 1000),
		SourceRate:  pick(d, 0, 1, 3, 16, 33, 1000),
		SourceBurst: pick(d, 1, 2, 5, 5, 1000),
		Idle:        pick(d, 1, 2, 3, 10, 10, 20, 100000),
		Life:        pick(d, 1, 2, 3, 5, 5, 9, 100000),
		Radius:      pick(d, 0, 3, 10, 20, 1024),
		Show:        pick(d, 0, 1, 2, 5, 32),
		Seed:        d.bytes(32),
		Board:       pick(d, boards...),
		Accounts:    accounts[:d.within(1, len(accounts))],
	}
}

// cast plays any script on a server. It knows all secrets, from a plain server that plays the same script: so most of what it says is right, and what is wrong is wrong in one place.
type cast struct {
	dice
	p        *plain
	accounts []api.Account
	sources  []string
	past     []api.Event
}

func (d *dice) cast(t *testing.T, c api.Config) *cast {
	return &cast{dice: dice(d.word() | 1), p: plainOf(t, c), accounts: c.Accounts, sources: pick(d, fewSources, someSources, manySources())}
}

// event is the next one of the script.
func (k *cast) event() api.Event {
	switch n := k.below(100); {
	case n < 22:
		return api.Event{Kind: api.EvTick}
	case n < 28:
		return api.Event{Kind: api.EvTake, N: pick(&k.dice, -1, 0, 1, 2, 3, 5, 1000, math.MaxInt, math.MinInt)}
	case n < 31:
		return api.Event{Kind: api.EvDraw, Data: k.bytes(pick(&k.dice, 32, 32, 32, 0, 31, 33))}
	case n < 32:
		return api.Event{Kind: pick(&k.dice, 0, 5, -1, 9, 257, math.MaxInt, math.MinInt), From: k.source(), Data: k.hello(), N: 1}
	case n < 37 && len(k.past) > 0:
		return pick(&k.dice, k.past...)
	}
	e := k.datagram()
	if k.one(12) {
		e.Data = k.turned(e.Data)
	}
	if k.one(20) {
		e.From = k.source()
	}
	k.past = append(k.past, e)
	return e
}

func (k *cast) source() string { return pick(&k.dice, k.sources...) }

// turned is a text with a byte turned, cut off, or put in.
func (k *cast) turned(s string) string {
	if s == "" {
		return "J"
	}
	i := k.below(len(s))
	switch k.below(4) {
	case 0:
		return s[:i]
	case 1:
		return s[:i] + k.bytes(1) + s[i:]
	}
	return s[:i] + string([]byte{s[i] ^ 1<<k.below(8)}) + s[i+1:]
}

func (k *cast) datagram() api.Event {
	from := k.source()
	switch n := k.below(70); {
	case n < 6:
		return api.Event{Kind: api.EvData, From: from, Data: k.hello()}
	case n < 22:
		return api.Event{Kind: api.EvData, From: from, Data: k.connect(from)}
	case n < 28:
		return api.Event{Kind: api.EvData, From: from, Data: k.junk()}
	}
	return k.command()
}

func (k *cast) hello() string { return "J01\x01" + k.nonce() + rep("\x00", 76) }

func (k *cast) nonce() string {
	return pick(&k.dice, "0123456789abcdef", rep("n", 16), k.bytes(16))
}

// junk is no datagram, or one that a server sends.
func (k *cast) junk() string {
	if len(k.p.queue) > 0 && k.one(3) {
		return pick(&k.dice, k.p.queue...).Data
	}
	kind := string([]byte{byte(k.below(10))})
	return pick(&k.dice, "", "J", "J0", "J01", k.bytes(k.below(1300)), "J01"+kind+k.bytes(k.below(120)), "J01"+kind+rep("\x00", k.below(100)), "J01\x06"+k.bytes(pick(&k.dice, 47, 48, 1196, 1197)), "J01\x01"+rep("\x00", 1197))
}

func (k *cast) connect(from string) string {
	now := k.p.Epoch()
	epoch := pick(&k.dice, now, now, now, now, now, now, now-1, now-1, now-2, now+1, 0)
	nonce := k.nonce()
	baked := from
	if k.one(15) {
		baked = k.source()
	}
	a := pick(&k.dice, k.accounts...)
	called, secret := a.Name, a.Secret
	switch k.below(20) {
	case 0:
		called = pick(&k.dice, "", "dan", "a b", rep("x", 255), a.Name+"\x00", "\xff")
	case 1:
		secret = pick(&k.dice, "", rep("a", 31), rep("b", 32))
	case 2, 3, 4:
		called = strings.ToUpper(called)
	}
	body := "J01\x03" + nonce + eight(epoch) + k.p.cookie(epoch, baked, nonce) + string([]byte{byte(len(called))}) + called
	return body + tag(secret, body)
}

// command is one of a session that lives, mostly; or a bye.
func (k *cast) command() api.Event {
	session, from, key, high := k.word()%(k.p.next+2), k.source(), rep("k", 32), uint64(0)
	if len(k.p.list) > 0 && !k.one(15) {
		s := pick(&k.dice, k.p.list...)
		session, from, key, high = s.live.Session, s.live.From, s.key, s.live.High
	}
	seq := high + 1
	if k.one(3) {
		seq = pick(&k.dice, high+2, high+3, high+63, high+64, high+65, high, high-1, high-2, high-5, high-62, high-63, high-64, high-65, 0, k.word())
	}
	if k.one(25) {
		key = pick(&k.dice, "", k.p.pool, k.p.c.Accounts[0].Secret)
	}
	body := "J01\x05" + eight(session) + eight(seq) + k.bytes(2) + string([]byte{byte(k.below(4))})
	if k.one(20) {
		body = "J01\x07" + eight(session) + eight(seq)
	}
	return api.Event{Kind: api.EvData, From: from, Data: body + tag(key, body)}
}

var (
	fewSources  = []string{"x", "y", "10.0.0.1:4242"}
	someSources = []string{"", "x", "y", "xx", "\xff\x00", "z", "10.0.0.1:4242", rep("long ", 100)}
)

// manySources are more than a server remembers.
func manySources() []string {
	var list []string
	for i := range 70 {
		list = append(list, "source "+string(rune('0'+i)))
	}
	return list
}
