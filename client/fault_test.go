package client_test

import (
	"fmt"
	"strings"
	"testing"

	"joust/api"
)

// stage is how far a client has come, and what its server knows of it.
type stage struct {
	name    string
	steps   []func(c clients)
	said    bool   // hello
	session uint64 // 0: none
	last    uint64 // the seq of the last datagram that it believed
	most    uint64 // the greatest number of a session
}

func stages() []stage {
	greet := func(c clients) { c.Hello() }
	hear := func(data string) func(c clients) { return func(c clients) { c.Hear(data) } }
	drive := func(c clients) { c.Command(api.Command{Throttle: 9}) }
	leave := func(c clients) { c.Bye() }
	join := []func(c clients){greet, hear(welcomeTo(5))}
	play := append(join[:2:2], drive, hear(seen(5, 3, 30)), drive)
	left := append(play[:5:5], leave)
	return []stage{
		{name: "fresh"},
		{"greeted", []func(c clients){greet}, true, 0, 0, 0},
		{"with a cookie", []func(c clients){greet, hear(cookie(nonce, 1, baked))}, true, 0, 0, 0},
		{"welcome", join, true, 5, 0, 5},
		{"playing", play, true, 5, 3, 5},
		{"left", left, true, 0, 0, 5},
		{"sent away", append(play[:5:5], hear(bye(5, 4, keyOf(5)))), true, 0, 0, 5},
		{"greeted again", append(left[:6:6], greet), true, 0, 0, 5},
		{"playing again", append(left[:6:6], hear(welcomeTo(7)), drive, hear(seen(7, 2, 40))), true, 7, 2, 7},
	}
}

func (x stage) begin(t *testing.T) both {
	t.Helper()
	b := begin(t, ann, nonce)
	for _, step := range x.steps {
		step(b.c)
		step(b.p)
	}
	b.told(x.name)
	if session, _, is := b.c.Playing(); session != x.session || is != (x.session > 0) {
		t.Fatalf("%s: session %d", x.name, session)
	}
	return b
}

// probe tells all that a client answers to calls which find out what it knows: its hello, session, seq, the last seq that it believed, the greatest session.
func probe(c clients) string {
	var told strings.Builder
	note := func(s string, e api.Errno) {
		session, player, is := c.Playing()
		v, has := c.View()
		fmt.Fprintln(&told, s, e, session, player, is, v, has)
	}
	note("", 0)
	note(c.Hear(cookie(nonce, 2, baked)))
	note(c.Command(api.Command{Turn: 1}))
	for seq := range uint64(6) {
		note(c.Hear(seen(5, seq, 500+seq)))
		note(c.Hear(seen(7, seq, 700+seq)))
	}
	note(c.Bye())
	for session := range uint64(10) {
		note(c.Hear(welcomeTo(session)))
	}
	note(c.Command(api.Command{Turn: 2}))
	note(c.Bye())
	note(c.Hello())
	note(c.Hear(welcomeTo(10)))
	return told.String()
}

// letter is a datagram that is being written.
type letter struct {
	kind    byte
	nonce   string
	session uint64
	seq     uint64
	data    string // of a snapshot
	key     string
}

// fault is what may be wrong with a letter.
type fault struct {
	want api.Errno
	make func(l *letter)
}

func (l letter) text() string {
	switch l.kind {
	case api.KdCookie:
		return cookie(l.nonce, 1, baked)
	case api.KdWelcome:
		return welcome(l.nonce, l.session, 1, salt, l.key)
	case api.KdSnapshot:
		return snapshot(l.session, l.seq, l.data, l.key)
	}
	return bye(l.session, l.seq, l.key)
}

// right is a letter of a kind without a fault, at a stage at which it may come.
func (x stage) right(kind byte) letter {
	l := letter{kind: kind, nonce: nonce, session: x.session, seq: x.last + 1, data: written(viewAt(99))}
	if kind == api.KdWelcome {
		l.session = x.most + 1
	}
	l.key = keyOf(l.session)
	return l
}

// placed tells whether a kind may come at a stage at all.
func (x stage) placed(kind byte) bool {
	if kind == api.KdSnapshot || kind == api.KdBye {
		return x.session > 0
	}
	return x.said && x.session == 0
}

// faults of a kind, in the chapter's order.
func (x stage) faults(kind byte) []fault {
	otherNonce := fault{api.ErrState, func(l *letter) { l.nonce = nonce[:15] + "\x03" }}
	otherKey := fault{api.ErrTag, func(l *letter) { l.key = keyOf(l.session + 1) }}
	switch kind {
	case api.KdCookie:
		return []fault{otherNonce}
	case api.KdWelcome:
		stale := fault{api.ErrStale, func(l *letter) { l.session, l.key = x.most, keyOf(x.most) }}
		return []fault{otherNonce, stale, otherKey}
	}
	another := fault{api.ErrState, func(l *letter) { l.session, l.key = x.session+1, keyOf(x.session+1) }}
	stale := fault{api.ErrStale, func(l *letter) { l.seq = x.last }}
	if kind == api.KdBye {
		return []fault{another, otherKey, stale}
	}
	return []fault{another, otherKey, stale, {api.ErrShort, func(l *letter) { l.data = l.data[:106] }}}
}

// forms are what may be wrong with a datagram's form, which comes ahead of all else.
func forms(kind byte) []struct {
	want api.Errno
	make func(s string) string
} {
	type form = struct {
		want api.Errno
		make func(s string) string
	}
	list := []form{
		{api.OK, func(s string) string { return s }},
		{api.ErrLength, func(s string) string { return s + rep("x", 1201-len(s)) }},
		{api.ErrMagic, func(s string) string { return "J02" + s[3:] }},
		{api.ErrMagic, func(s string) string { return s[:2] }},
		{api.ErrKind, func(s string) string { return s[:3] }},
		{api.ErrKind, func(s string) string { return "J01\x00" + s[4:] }},
		{api.ErrKind, func(s string) string { return "J01\x08" + s[4:] }},
		{api.ErrLength, func(s string) string { return s[:51] }},
	}
	if kind != api.KdSnapshot {
		list = append(list, form{api.ErrLength, func(s string) string { return s + "\x00" }}, form{api.ErrLength, func(s string) string { return s[:len(s)-1] }})
	}
	return list
}

// P24.3: every kind that a client hears, at every stage, with every set of faults, and with every fault of its form: the first fault in the chapter's order is told, and nothing has changed.
func TestFaults(t *testing.T) {
	for _, x := range stages() {
		before := probe(x.begin(t).c)
		for _, kind := range []byte{api.KdCookie, api.KdWelcome, api.KdSnapshot, api.KdBye} {
			all := x.faults(kind)
			for set := range 1 << len(all) {
				l, want := x.right(kind), api.OK
				for i, f := range all {
					if set>>i&1 == 1 {
						f.make(&l)
						if want == api.OK {
							want = f.want
						}
					}
				}
				if !x.placed(kind) {
					want = api.ErrState
				}
				for _, f := range forms(kind) {
					if f.want == api.OK {
						x.wantHeard(t, f.make(l.text()), want, before)
					} else {
						x.wantHeard(t, f.make(l.text()), f.want, before)
					}
				}
			}
		}
	}
}

// wantHeard asks what becomes of a datagram at a stage; where it is refused, that nothing has changed.
func (x stage) wantHeard(t *testing.T, data string, want api.Errno, before string) {
	t.Helper()
	b := x.begin(t)
	s, e := b.hear(x.name, data)
	if e != want {
		t.Fatalf("%s: %q: %v, want %v", x.name, data, e, want)
	}
	if want == api.OK {
		return
	}
	if s != "" {
		t.Fatalf("%s: %q: %q beside an error", x.name, data, s)
	}
	if probe(b.c) != before {
		t.Fatalf("%s: %q: refused, but something has changed", x.name, data)
	}
}

// P24.3: kinds that a client says are none that it hears, at every stage, sealed or not; what is wrong with their form is told ahead of it.
func TestOwnKinds(t *testing.T) {
	for _, x := range stages() {
		before := probe(x.begin(t).c)
		for _, key := range []string{keyOf(5), keyOf(7), secret, ""} {
			body := "J01\x05" + eight(x.session) + eight(x.last+1) + "\x05\x05"
			for flags := range 4 {
				x.wantHeard(t, sealed(body+string([]byte{byte(flags)}), key), api.ErrKind, before)
			}
			x.wantHeard(t, sealed(body+"\x04", key), api.ErrField, before)
			x.wantHeard(t, sealed(body, key), api.ErrLength, before)
			x.wantHeard(t, connect(nonce, 1, baked, "ann", key), api.ErrKind, before)
			x.wantHeard(t, connect(salt, 1, baked, "", key), api.ErrKind, before)
			x.wantHeard(t, connect(nonce, 1, baked, "ann", key)+"x", api.ErrLength, before)
		}
		x.wantHeard(t, hello(nonce), api.ErrKind, before)
		x.wantHeard(t, hello(salt), api.ErrKind, before)
		x.wantHeard(t, hello(nonce)[:95]+"x", api.ErrField, before)
		x.wantHeard(t, hello(nonce)[:95], api.ErrLength, before)
	}
}

// P24.2, P24.4, P24.5: calls that are refused change nothing.
func TestCallsRefused(t *testing.T) {
	for _, x := range stages() {
		before := probe(x.begin(t).c)
		type call struct {
			what string
			do   func(b both) (string, api.Errno)
			want api.Errno
		}
		var list []call
		for _, n := range numbers {
			want := api.OK
			if x.session == 0 {
				want = api.ErrState
			} else if n < -128 || n > 127 {
				want = api.ErrField
			}
			list = append(list,
				call{"throttle", func(b both) (string, api.Errno) { return b.command(api.Command{Throttle: n, Fire: true}) }, want},
				call{"turn", func(b both) (string, api.Errno) { return b.command(api.Command{Turn: n, Boost: true}) }, want},
				call{"both", func(b both) (string, api.Errno) { return b.command(api.Command{Throttle: n, Turn: n}) }, want})
		}
		if x.session > 0 {
			list = append(list, call{"Hello", both.hello, api.ErrState}, call{"Bye", both.bye, api.OK})
		} else {
			list = append(list, call{"Hello", both.hello, api.OK}, call{"Bye", both.bye, api.ErrState})
		}
		for _, l := range list {
			b := x.begin(t)
			s, e := l.do(b)
			if e != l.want || (s == "") != (e != api.OK) {
				t.Fatalf("%s: %s: %q, %v, want %v", x.name, l.what, s, e, l.want)
			}
			if e != api.OK && probe(b.c) != before {
				t.Fatalf("%s: %s: refused, but something has changed", x.name, l.what)
			}
		}
	}
}

// P24.3: a right datagram of which any one bit is turned is not believed, and what it is refused by is the plain reading's.
func TestBitsTurned(t *testing.T) {
	for _, x := range stages() {
		before := probe(x.begin(t).c)
		for _, kind := range []byte{api.KdWelcome, api.KdSnapshot, api.KdBye} {
			if !x.placed(kind) || testing.Short() && x.name != "playing" {
				continue
			}
			data := x.right(kind).text()
			x.wantHeard(t, data, api.OK, before)
			b := x.begin(t)
			for i := range 8 * len(data) {
				turned := []byte(data)
				turned[i/8] ^= 1 << (i % 8)
				if s, e := b.hear("a bit turned", string(turned)); e == api.OK || s != "" {
					t.Fatalf("%s: kind %d, bit %d: %q, %v", x.name, kind, i, s, e)
				}
			}
			if probe(b.c) != before {
				t.Fatalf("%s: kind %d: refused, but something has changed", x.name, kind)
			}
		}
	}
}

// P24.3, R4: a welcome's key is made of the account's secret, the client's nonce, the salt and the number, and of nothing else.
func TestWelcomeKeys(t *testing.T) {
	number := eight(0x0102030405060708)
	right := derive(secret, "session", nonce, salt, number)
	b := begin(t, ann, nonce)
	b.hello()
	for _, key := range []string{
		"", secret, rep("\x00", 32), right[:31], right + "\x00\x01", tag(right, ""), keyOf(1),
		derive(secret, "session", nonce, salt), derive(secret, "session", nonce, salt, eight(0x0807060504030201)), derive(secret, "session", salt, nonce, number),
		derive(secret, "session", nonce+salt+number), derive(secret, "session", nonce, salt, "72623859790382856"), derive(secret, "Session", nonce, salt, number), derive(secret, "", nonce, salt, number),
		derive(rep("\x02", 32), "session", nonce, salt, number), derive(secret, "session", salt, salt, number), derive(secret, "session", nonce, nonce, number), derive(secret, "session", nonce, salt, number, "\x01"),
	} {
		if _, e := b.hear("another key", welcome(nonce, 0x0102030405060708, 1, salt, key)); e != api.ErrTag {
			t.Errorf("a welcome under %x: %v", key, e)
		}
	}
	if _, e := b.hear("the key", welcome(nonce, 0x0102030405060708, 1, salt, right)); e != api.OK {
		t.Errorf("the welcome: %v", e)
	}
	s, _ := b.command(api.Command{})
	if !isSealed(s, right) {
		t.Errorf("a command under another key: %q", s)
	}
}
