package client_test

import (
	"testing"

	"joust/api"
	"joust/client"
	"joust/frame"
	"joust/view"
)

// The examples' client, and what its server knows.
var (
	secret = rep("\x01", 32)
	nonce  = rep("\x02", 16)
	salt   = "the server's sal"
	baked  = rep("c", 32)
	ann    = api.Account{Name: "ann", Secret: secret}
)

func begun(t *testing.T, a api.Account, nonce string) *client.Client {
	t.Helper()
	c, e := client.New(a, nonce)
	if e != api.OK || c == nil {
		t.Fatalf("New(%+v, %q): %v", a, nonce, e)
	}
	return c
}

// keyOf is the key of a session of ann's with the salt above.
func keyOf(session uint64) string {
	return derive(secret, "session", nonce, salt, eight(session))
}

// welcomeTo is ann's welcome to a session, as player 1.
func welcomeTo(session uint64) string {
	return welcome(nonce, session, 1, salt, keyOf(session))
}

// seen is the snapshot of a session with a view of a tick.
func seen(session, seq, tick uint64) string {
	return snapshot(session, seq, written(viewAt(tick)), keyOf(session))
}

func viewAt(tick uint64) api.View {
	return api.View{Tick: tick, Own: api.Car{Player: 1, Name: "ann"}, Seen: []api.Seen{{Kind: 2, Id: 7}}}
}

// asked is one client, and what it must answer.
type asked struct {
	clients
	t *testing.T
}

func ask(t *testing.T) asked {
	t.Helper()
	return asked{begun(t, ann, nonce), t}
}

// hears lets the client hear a datagram that wants no answer.
func (c asked) hears(what, data string, want api.Errno) {
	c.t.Helper()
	if s, e := c.Hear(data); s != "" || e != want {
		c.t.Errorf("%s: %q, %v, want %v", what, s, e, want)
	}
}

func (c asked) greets() {
	c.t.Helper()
	if s, e := c.Hello(); s != hello(nonce) || e != api.OK {
		c.t.Errorf("Hello: %q, %v", s, e)
	}
}

// commands asks for a command with a throttle, and for the seq that it has.
func (c asked) commands(session, seq uint64, throttle int) {
	c.t.Helper()
	s, e := c.Command(api.Command{Throttle: throttle})
	if want := sealed("J01\x05"+eight(session)+eight(seq)+string([]byte{byte(throttle), 0, 0}), keyOf(session)); s != want || e != api.OK {
		c.t.Errorf("Command: %q, %v, want %q", s, e, want)
	}
}

func (c asked) leaves(session, seq uint64) {
	c.t.Helper()
	if s, e := c.Bye(); s != bye(session, seq, keyOf(session)) || e != api.OK {
		c.t.Errorf("Bye: %q, %v, want session %d, seq %d", s, e, session, seq)
	}
}

func (c asked) plays(session uint64, player int) {
	c.t.Helper()
	if n, p, is := c.Playing(); n != session || p != player || is != (session > 0) {
		c.t.Errorf("Playing: %d, %d, %v, want %d, %d", n, p, is, session, player)
	}
}

// sees asks for the view of a tick; of tick 0 there is none.
func (c asked) sees(tick uint64) {
	c.t.Helper()
	v, is := c.View()
	if is != (tick > 0) || tick > 0 && !view.Equal(v, viewAt(tick)) || tick == 0 && !view.Equal(v, api.View{}) {
		c.t.Errorf("View: %+v, %v, want tick %d", v, is, tick)
	}
}

// refuses asks that calls which need a session, or none, are refused.
func (c asked) refuses(what string, call func() (string, api.Errno), want api.Errno) {
	c.t.Helper()
	if s, e := call(); s != "" || e != want {
		c.t.Errorf("%s: %q, %v, want %v", what, s, e, want)
	}
}

// Examples, line by line.
func TestExamples(t *testing.T) {
	for _, x := range []struct {
		name, secret, nonce string
		want                api.Errno
	}{{"", secret, nonce, 60}, {"ann", secret[:31], nonce, 120}, {"ann", secret, nonce[:15], 73}} {
		if c, e := client.New(api.Account{Name: x.name, Secret: x.secret}, x.nonce); c != nil || e != x.want {
			t.Errorf("New(%q, %d bytes, %d bytes): %v, want %v", x.name, len(x.secret), len(x.nonce), e, x.want)
		}
	}
	c := ask(t)
	c.hears("a cookie", cookie(nonce, 1, baked), 240)
	c.refuses("Command", func() (string, api.Errno) { return c.Command(api.Command{}) }, 240)
	c.refuses("Bye", c.Bye, 240)
	c.plays(0, 0)
	c.greets()
	c.hears("a cookie with another nonce", cookie(rep("\x03", 16), 1, baked), 240)
	c.hears("its own hello", hello(nonce), 71)
	c.hears("nothing", "", 70)
	s, e := c.Hear(cookie(nonce, 1, baked))
	if e != api.OK || len(s) != 96 || s != connect(nonce, 1, baked, "ann", secret) {
		t.Errorf("a cookie: %q, %v", s, e)
	}
	c.hears("a welcome under another key", welcome(nonce, 5, 1, salt, keyOf(6)), 124)
	c.hears("a welcome", welcomeTo(5), api.OK)
	c.plays(5, 1)
	c.refuses("Hello", c.Hello, 240)
	c.refuses("throttle 128", func() (string, api.Errno) { return c.Command(api.Command{Throttle: 128}) }, 73)
	c.commands(5, 1, 5)
	c.commands(5, 2, 6)
	c.leaves(5, 3)
	c.plays(0, 0)
	c.hears("the same welcome", welcomeTo(5), 241)
}

// Hard places: a welcome that comes twice; behind the session's end, by the client's bye and by the server's in turn.
func TestWelcomeTwice(t *testing.T) {
	c := ask(t)
	c.greets()
	for i, session := range []uint64{1, 2, 3, 9, 10, 1 << 40, 1<<63 - 1, 1 << 63, 1<<64 - 2, 1<<64 - 1} {
		c.hears("a welcome", welcomeTo(session), api.OK)
		c.hears("it comes twice", welcomeTo(session), 240)
		c.hears("a later one", welcomeTo(session+1), 240)
		c.plays(session, 1)
		if i%2 == 0 {
			c.leaves(session, 1)
		} else {
			c.hears("the server's bye", bye(session, 1, keyOf(session)), api.OK)
		}
		for _, old := range []uint64{session, session - 1, 1, 0} {
			c.hears("behind the end", welcomeTo(old), 241)
		}
		c.plays(0, 0)
	}
}

// A number of 0 is above none, so no session has it, though it is sealed.
func TestWelcomeZero(t *testing.T) {
	c := ask(t)
	c.greets()
	c.hears("a welcome to session 0", welcomeTo(0), 241)
	c.hears("and under another key", welcome(nonce, 0, 1, salt, keyOf(1)), 241)
	c.plays(0, 0)
	c.hears("a welcome to session 1", welcomeTo(1), api.OK)
	c.plays(1, 1)
}

// A welcome that is refused leaves the number to the right one.
func TestWelcomeRefused(t *testing.T) {
	c := ask(t)
	c.greets()
	for range 3 {
		c.hears("a welcome to session 9 under another key", welcome(nonce, 9, 1, salt, keyOf(8)), 124)
		c.hears("a welcome with another nonce", welcome(salt, 9, 1, salt, derive(secret, "session", salt, salt, eight(9))), 240)
		c.plays(0, 0)
	}
	c.hears("a welcome to session 2", welcomeTo(2), api.OK)
	c.plays(2, 1)
	c.leaves(2, 1)
	c.hears("a welcome to session 9", welcomeTo(9), api.OK)
	c.plays(9, 1)
}

// Every player that a welcome can tell.
func TestWelcomePlayers(t *testing.T) {
	c := ask(t)
	c.greets()
	for p := range 256 {
		session := uint64(p) + 1
		c.hears("a welcome", welcome(nonce, session, byte(p), salt, keyOf(session)), api.OK)
		c.plays(session, p)
		c.leaves(session, 1)
	}
}

// Hard places: a snapshot that overtakes others; all orders of four, each twice.
func TestSnapshotsInAnyOrder(t *testing.T) {
	var orders [][]uint64
	var lay func(order []uint64)
	lay = func(order []uint64) {
		if len(order) == 4 {
			orders = append(orders, order)
			return
		}
	each:
		for seq := range uint64(4) {
			for _, x := range order {
				if x == seq+1 {
					continue each
				}
			}
			lay(append(order[:len(order):len(order)], seq+1))
		}
	}
	lay(nil)
	if len(orders) != 24 {
		t.Fatal(len(orders))
	}
	for _, order := range orders {
		c := ask(t)
		c.greets()
		c.hears("a welcome", welcomeTo(5), api.OK)
		last := uint64(0)
		for _, seq := range order {
			want := api.OK
			if seq < last {
				want = api.ErrStale
			}
			c.hears("a snapshot", seen(5, seq, 100+seq), want)
			c.hears("the same again", seen(5, seq, 100+seq), api.ErrStale)
			c.hears("another one with its seq", seen(5, seq, 200+seq), api.ErrStale)
			last = max(last, seq)
			c.sees(100 + last)
		}
		c.hears("a bye with the seq of the last one", bye(5, 4, keyOf(5)), api.ErrStale)
		c.plays(5, 1)
		c.hears("the server's bye", bye(5, 5, keyOf(5)), api.OK)
		c.plays(0, 0)
		c.sees(104)
	}
}

// A seq may be any number above the last one; 0 is above none.
func TestSnapshotSeqs(t *testing.T) {
	c := ask(t)
	c.greets()
	c.hears("a welcome", welcomeTo(1<<63), api.OK)
	c.hears("seq 0", seen(1<<63, 0, 1), api.ErrStale)
	c.hears("a bye with seq 0", bye(1<<63, 0, keyOf(1<<63)), api.ErrStale)
	c.sees(0)
	last := uint64(0)
	for i, seq := range []uint64{1, 2, 65, 66, 1000, 255, 256, 1 << 32, 1<<32 - 1, 1 << 56, 1<<63 - 1, 1 << 63, 1<<63 + 1, 2, 1<<64 - 1, 1<<64 - 2, 0} {
		want := api.OK
		if seq <= last {
			want = api.ErrStale
		}
		last = max(last, seq)
		c.hears("a snapshot", seen(1<<63, seq, uint64(i)+1), want)
	}
	c.sees(15)
	c.hears("behind the greatest seq no bye is new", bye(1<<63, 1<<64-1, keyOf(1<<63)), api.ErrStale)
	c.plays(1<<63, 1)
	c.leaves(1<<63, 1)
	c.sees(15)
}

// Hard places: a view that does not read is no view, and its seq is free for one that does.
func TestViewThatDoesNotRead(t *testing.T) {
	c := ask(t)
	c.greets()
	c.hears("a welcome", welcomeTo(5), api.OK)
	whole := written(viewAt(9))
	bad := func(seq uint64) {
		t.Helper()
		c.hears("none", snapshot(5, seq, "", keyOf(5)), 50)
		for n := range len(whole) {
			c.hears("a view cut off", snapshot(5, seq, whole[:n], keyOf(5)), 50)
		}
		c.hears("a byte more", snapshot(5, seq, whole+"\x00", keyOf(5)), 51)
		c.hears("as long as may be", snapshot(5, seq, whole+rep("x", 1148-len(whole)), keyOf(5)), 51)
	}
	bad(7)
	c.sees(0)
	c.hears("an earlier seq", seen(5, 3, 70), api.OK)
	bad(7)
	c.sees(70)
	c.hears("the same seq", seen(5, 7, 71), api.OK)
	c.sees(71)
	c.hears("and again, cut off", snapshot(5, 7, whole[:20], keyOf(5)), 241)
	bad(1<<64 - 1)
	c.hears("the server's bye", bye(5, 8, keyOf(5)), api.OK)
	c.sees(71)
}

// Hard places: a hello is the same bytes again and again, ahead of a cookie, behind it, and behind a session.
func TestHelloAgain(t *testing.T) {
	c := ask(t)
	for range 3 {
		c.greets()
	}
	if s, e := c.Hear(cookie(nonce, 3, baked)); e != api.OK || s != connect(nonce, 3, baked, "ann", secret) {
		t.Errorf("a cookie: %q, %v", s, e)
	}
	c.greets()
	c.hears("a welcome", welcomeTo(5), api.OK)
	c.refuses("Hello", c.Hello, 240)
	c.leaves(5, 1)
	for range 3 {
		c.greets()
	}
	c.hears("the old welcome", welcomeTo(5), 241)
}

// Hard places: a server's bye has the next seq of its snapshots; behind it the session is over, and what it sealed is no longer heard.
func TestServersBye(t *testing.T) {
	c := ask(t)
	c.greets()
	c.hears("a welcome", welcomeTo(5), api.OK)
	c.commands(5, 1, 3)
	for seq := range uint64(4) {
		c.hears("a snapshot", seen(5, seq+1, seq+1), api.OK)
	}
	c.hears("a bye of another key", bye(5, 5, keyOf(6)), 124)
	c.hears("another's bye", bye(6, 5, keyOf(6)), 240)
	c.hears("its own bye", bye(5, 4, keyOf(5)), 241)
	c.plays(5, 1)
	c.hears("the bye", bye(5, 5, keyOf(5)), api.OK)
	c.plays(0, 0)
	c.sees(4)
	c.hears("a late snapshot", seen(5, 6, 6), 240)
	c.hears("the bye again", bye(5, 5, keyOf(5)), 240)
	c.hears("a snapshot of session 0", seen(0, 6, 6), 240)
	c.hears("a snapshot of session 0 under no key", snapshot(0, 6, written(viewAt(6)), ""), 240)
	c.hears("a bye of session 0 under no key", bye(0, 6, ""), 240)
	c.refuses("Command", func() (string, api.Errno) { return c.Command(api.Command{Throttle: 128}) }, 240)
	c.refuses("Bye", c.Bye, 240)
	if s, e := c.Hear(cookie(nonce, 2, baked)); e != api.OK || s != connect(nonce, 2, baked, "ann", secret) {
		t.Errorf("a cookie: %q, %v", s, e)
	}
	c.hears("a new welcome", welcomeTo(6), api.OK)
	c.sees(4)
	c.hears("the first snapshot", seen(6, 1, 50), api.OK)
	c.sees(50)
	c.commands(6, 1, 3)
}

// A cookie is echoed each time anew, whatever its epoch and its bytes are, under the account's own spelling.
func TestCookies(t *testing.T) {
	for _, called := range []string{"a", "ann", "ANN", "abcdefghijkl", "\u03b1\u03b2\u03b3", rep("\u00c0", 12)} {
		c := begun(t, api.Account{Name: called, Secret: secret}, nonce)
		c.Hello()
		for _, epoch := range []uint64{0, 1, 2, 1, 255, 256, 1 << 32, 1 << 63, 1<<64 - 1} {
			for _, text := range []string{baked, rep("\x00", 32), rep("\xff", 32), secret} {
				s, e := c.Hear(cookie(nonce, epoch, text))
				if e != api.OK || s != connect(nonce, epoch, text, called, secret) || len(s) != 93+len(called) {
					t.Errorf("%q, epoch %d: %q, %v", called, epoch, s, e)
				}
				if d, e := frame.Decode(s); e != api.OK || d.Name != called || d.Epoch != epoch || d.Cookie != text || !frame.Sealed(s, secret) {
					t.Errorf("%+v, %v", d, e)
				}
			}
		}
	}
}
