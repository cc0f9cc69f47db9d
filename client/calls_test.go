package client_test

import (
	"fmt"
	"testing"

	"joust/api"
	"joust/frame"
)

var accounts = []api.Account{
	{Name: "ann", Secret: rep("a", 32)},
	{Name: "bob", Secret: rep("b", 32)},
	{Name: "Cy_9", Secret: rep("\x00", 32)},
	{Name: "D\u00e4n", Secret: rep("\xff", 32)},
	{Name: "abcdefghijkl", Secret: "0123456789abcdefghijklmnopqrstuv"},
	{Name: "\u03b1\u03b2\u03b3", Secret: rep("g\n", 16)},
}

// post writes datagrams to a client. It knows all that the plain one knows: so most of what it writes is right, and what is wrong is wrong in few places.
type post struct {
	*dice
	p    *plain
	past []string
	keys []string // of the sessions that were
}

func (d *dice) post(t *testing.T) (*post, *plain) {
	t.Helper()
	p, e := plainNew(pick(d, accounts...), pick(d, nonce, rep("\x00", 16), d.bytes(16)))
	if e != api.OK {
		t.Fatal(e)
	}
	return &post{dice: d, p: p}, p
}

// letter is the next datagram.
func (k *post) letter() string {
	s := ""
	switch n := k.below(100); {
	case n < 12:
		s = k.cookie()
	case n < 27:
		s = k.welcome()
	case n < 66:
		s = k.snapshot()
	case n < 76:
		s = k.bye()
	case n < 82:
		s = k.own()
	case n < 87:
		s = k.junk()
	case n < 93 && len(k.past) > 0:
		return pick(k.dice, k.past...)
	default:
		s = k.turned(pick(k.dice, k.cookie, k.welcome, k.snapshot, k.bye, k.own)())
	}
	k.past = append(k.past, s)
	return s
}

func (k *post) nonce() string {
	if k.one(6) {
		return pick(k.dice, k.p.nonce[1:]+"x", "x"+k.p.nonce[1:], k.bytes(16), salt)
	}
	return k.p.nonce
}

func (k *post) cookie() string {
	return cookie(k.nonce(), k.word()>>k.below(64), pick(k.dice, baked, k.bytes(32)))
}

// key is the right one, mostly.
func (k *post) key(right string) string {
	if k.one(8) {
		return pick(k.dice, append([]string{"", k.p.account.Secret, k.p.key, k.bytes(32), rep("k", 70)}, k.keys...)...)
	}
	return right
}

func (k *post) welcome() string {
	session := k.p.most + 1 + uint64(k.below(3))
	if k.one(4) {
		session = pick(k.dice, k.p.most, k.p.most-1, k.p.session, 0, 1, k.p.most+1<<20)
	}
	nonce, salt := k.nonce(), k.bytes(16)
	key := derive(k.p.account.Secret, "session", nonce, salt, eight(session))
	k.keys = append(k.keys, key)
	return welcome(nonce, session, byte(k.below(256)), salt, k.key(key))
}

// of is the session, and a seq behind the last one, mostly.
func (k *post) of() (uint64, uint64) {
	session, seq := k.p.session, k.p.last+1+uint64(k.below(3))
	if k.one(8) {
		session = pick(k.dice, session+1, session-1, 0, k.word())
	}
	if k.one(4) {
		seq = pick(k.dice, k.p.last, k.p.last-1, k.p.last-2, k.p.seq, 0, 1, k.p.last+1000)
	}
	return session, seq
}

func (k *post) snapshot() string {
	session, seq := k.of()
	data := written(k.view())
	if k.one(8) {
		data = pick(k.dice, "", data[:k.below(len(data))], data+"\x00", data+k.bytes(1+k.below(20)), k.bytes(k.below(300)))
	}
	return snapshot(session, seq, data, k.key(k.p.key))
}

func (k *post) bye() string {
	session, seq := k.of()
	return bye(session, seq, k.key(k.p.key))
}

// own is a datagram of a kind that the client says itself.
func (k *post) own() string {
	session, seq := k.of()
	return pick(k.dice, hello(k.nonce()), connect(k.nonce(), k.word(), baked, k.p.account.Name, k.key(k.p.account.Secret)), sealed("J01\x05"+eight(session)+eight(seq)+k.bytes(2)+string([]byte{byte(k.below(5))}), k.key(k.p.key)))
}

// kindOf tells the kind of a datagram, and 0 for what is none.
func kindOf(data string) int {
	d, e := frame.Decode(data)
	if e != api.OK {
		return 0
	}
	return d.Kind
}

// P24.2 to P24.6, P24.8: any calls in any order, held against the plain reading: each answer, and what is told behind it. All refusals of all kinds come, at all stages.
func TestAnyCalls(t *testing.T) {
	d := dice(2424)
	met := map[string]int{}
	for range rounds(400) {
		k, p := d.post(t)
		b := both{begun(t, p.account, p.nonce), p, t}
		sealed := uint64(0)
		for range 250 {
			stage := fmt.Sprint(p.said, p.has, p.most > 0)
			switch n := k.below(100); {
			case n < 5:
				_, e := b.hello()
				met[fmt.Sprint("hello ", stage, e)]++
			case n < 20:
				s, e := b.command(k.command())
				met[fmt.Sprint("command ", stage, e)]++
				sealed = wantNext(t, s, e, sealed)
			case n < 23:
				s, e := b.bye()
				met[fmt.Sprint("bye ", stage, e)]++
				sealed = wantNext(t, s, e, sealed)
			default:
				data := k.letter()
				had := p.has
				_, e := b.hear("a datagram", data)
				met[fmt.Sprint("hear ", kindOf(data), stage, e)]++
				if p.has && !had {
					sealed = 0
				}
			}
		}
	}
	wantMet(t, met)
}

// wantNext asks that a datagram that was sealed has the next seq.
func wantNext(t *testing.T, data string, e api.Errno, sealed uint64) uint64 {
	t.Helper()
	if e != api.OK {
		return sealed
	}
	if d, _ := frame.Decode(data); d.Seq != sealed+1 {
		t.Fatalf("seq %d behind %d", d.Seq, sealed)
	}
	return sealed + 1
}

// wantMet asks that the calls were not too dull.
func wantMet(t *testing.T, met map[string]int) {
	t.Helper()
	fresh, greeted, playing, again := "false false false", "true false false", "true true true", "true false true"
	var list []string
	add := func(call string, e api.Errno, stages ...string) {
		for _, x := range stages {
			list = append(list, fmt.Sprint(call, x, e))
		}
	}
	all := []string{fresh, greeted, playing, again}
	add("hello ", api.OK, fresh, greeted, again)
	add("hello ", api.ErrState, playing)
	for _, call := range []string{"command ", "bye "} {
		add(call, api.OK, playing)
		add(call, api.ErrState, fresh, greeted, again)
	}
	add("command ", api.ErrField, playing)
	for _, kind := range []string{"1", "3", "5"} {
		add("hear "+kind, api.ErrKind, all...)
	}
	for _, e := range []api.Errno{api.ErrMagic, api.ErrKind, api.ErrLength, api.ErrField} {
		add("hear 0", e, all...)
	}
	add("hear 2", api.OK, greeted, again)
	add("hear 2", api.ErrState, all...)
	add("hear 4", api.OK, greeted, again)
	add("hear 4", api.ErrState, all...)
	add("hear 4", api.ErrStale, greeted, again)
	add("hear 4", api.ErrTag, greeted, again)
	for _, kind := range []string{"6", "7"} {
		add("hear "+kind, api.ErrState, all...)
		add("hear "+kind, api.OK, playing)
		add("hear "+kind, api.ErrTag, playing)
		add("hear "+kind, api.ErrStale, playing)
	}
	add("hear 6", api.ErrShort, playing)
	add("hear 6", api.ErrRange, playing)
	for _, x := range list {
		if met[x] == 0 && !testing.Short() {
			t.Errorf("never met: %s", x)
		}
	}
}

// P24.4: all throttles and turns that fit one byte, and their flags; the refused ones between use no seq up.
func TestAllCommands(t *testing.T) {
	b := begin(t, ann, nonce)
	b.hello()
	b.hear("a welcome", welcomeTo(5))
	seq := uint64(0)
	for n := -400; n <= 400; n++ {
		for i, x := range []api.Command{{Throttle: n}, {Turn: n}, {Throttle: n, Turn: -n, Fire: true}, {Throttle: -n, Turn: n, Boost: true}, {Throttle: n, Turn: n, Fire: true, Boost: true}} {
			s, e := b.command(x)
			fits := n >= -128 && n <= 127 && (i != 2 && i != 3 || n >= -127)
			if fits != (e == api.OK) || !fits && (e != api.ErrField || s != "") {
				t.Fatalf("%+v: %q, %v", x, s, e)
			}
			if !fits {
				continue
			}
			seq++
			if d, e := frame.Decode(s); e != api.OK || d.Command != x || d.Seq != seq || d.Session != 5 || !isSealed(s, keyOf(5)) {
				t.Fatalf("%+v: %+v, %v, want seq %d", x, d, e, seq)
			}
		}
	}
	if s, e := b.bye(); e != api.OK || s != bye(5, seq+1, keyOf(5)) {
		t.Fatalf("%q, %v", s, e)
	}
}

// P24.8: the seqs of all that it seals in a session are 1, 2, 3 .., whatever is refused between; in the next session again.
func TestSeqs(t *testing.T) {
	d := dice(248)
	c := begun(t, ann, nonce)
	c.Hello()
	for session := uint64(1); session <= 40; session++ {
		if _, e := c.Hear(welcomeTo(session)); e != api.OK {
			t.Fatal(e)
		}
		many := uint64(d.below(300))
		for seq := uint64(1); seq <= many+1; {
			var s string
			e := api.OK
			switch n := d.below(6); {
			case n == 0:
				s, e = c.Command(api.Command{Throttle: 1000})
			case n == 1:
				s, e = c.Hear(seen(session, seq, seq))
				s = ""
			case n == 2:
				s, e = c.Hello()
			case seq == many+1:
				s, e = c.Bye()
			default:
				s, e = c.Command(d.command())
			}
			if e != api.OK || s == "" {
				continue
			}
			if x, e := frame.Decode(s); e != api.OK || x.Session != session || x.Seq != seq {
				t.Fatalf("session %d, seq %d: %+v, %v", session, seq, x, e)
			}
			seq++
		}
	}
}
