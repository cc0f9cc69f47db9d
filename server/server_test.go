package server_test

import (
	"slices"
	"testing"

	"joust/api"
	"joust/book"
	"joust/frame"
	"joust/rule"
	"joust/server"
	"joust/snap"
	"joust/view"
)

const nonce = "0123456789abcdef"

// config is the examples' one.
func config() api.Config {
	return api.Config{Sessions: 2, Output: 8, Rate: 16, Burst: 3, SourceRate: 1, SourceBurst: 2, Idle: 10, Life: 5, Radius: 20, Show: 4, Seed: rep("s", 32), Board: boards[0], Accounts: slices.Clone(accounts[:2])}
}

// wide is a configuration in which nothing is short: all accounts may play, everybody may say much, and the queue is long.
func wide() api.Config {
	c := config()
	c.Sessions, c.Output, c.Rate, c.Burst, c.SourceRate, c.SourceBurst, c.Accounts = len(accounts), 256, 1000, 1000, 1000, 1000, slices.Clone(accounts)
	return c
}

// begun is a server of a configuration that may be.
func begun(t *testing.T, c api.Config) *server.Server {
	t.Helper()
	s, e := server.New(c)
	if e != api.OK || s == nil {
		t.Fatalf("New(%+v): %v", c, e)
	}
	return s
}

// world is a server, and whoever plays on it.
type world struct {
	*server.Server
	t *testing.T
}

func begin(t *testing.T, c api.Config) world {
	t.Helper()
	return world{begun(t, c), t}
}

// say sends a datagram, and wants this answer.
func (w world) say(from, data string, want api.Errno) {
	w.t.Helper()
	if out, e := w.Do(api.Event{Kind: api.EvData, From: from, Data: data}); e != want || len(out) != 0 {
		w.t.Fatalf("%q from %q: %d datagrams, %v, want %v", data, from, len(out), e, want)
	}
}

func (w world) tick() {
	w.t.Helper()
	if out, e := w.Do(api.Event{Kind: api.EvTick}); e != api.OK || len(out) != 0 {
		w.t.Fatalf("a tick: %d datagrams, %v", len(out), e)
	}
}

func (w world) ticks(n int) {
	w.t.Helper()
	for range n {
		w.tick()
	}
}

func (w world) draw(chance string) {
	w.t.Helper()
	if out, e := w.Do(api.Event{Kind: api.EvDraw, Data: chance}); e != api.OK || len(out) != 0 {
		w.t.Fatalf("a draw: %d datagrams, %v", len(out), e)
	}
}

func (w world) take(n int) []api.Out {
	w.t.Helper()
	out, e := w.Do(api.Event{Kind: api.EvTake, N: n})
	if e != api.OK {
		w.t.Fatalf("a take: %v", e)
	}
	return out
}

// cookie empties the queue, says hello, and takes the cookie out.
func (w world) cookie(from string) api.Datagram {
	w.t.Helper()
	w.take(1000)
	w.say(from, hello(nonce), api.OK)
	out := w.take(1000)
	if len(out) != 1 || out[0].To != from || len(out[0].Data) != 60 {
		w.t.Fatalf("a hello is answered by %q", out)
	}
	d, e := frame.Decode(out[0].Data)
	if e != api.OK || d.Kind != api.KdCookie || d.Nonce != nonce || d.Epoch != w.Epoch() {
		w.t.Fatalf("a hello is answered by %+v, %v", d, e)
	}
	return d
}

// join lets an account play from a source: its session and its key. The queue is empty behind it.
func (w world) join(from string, a api.Account) (uint64, string) {
	w.t.Helper()
	w.say(from, connect(w.cookie(from), a.Name, a.Secret), api.OK)
	w.take(1000)
	return w.last()
}

// last is the session that began last, and its key.
func (w world) last() (uint64, string) {
	w.t.Helper()
	lives := w.Lives()
	if len(lives) == 0 {
		w.t.Fatal("nobody plays")
	}
	session := lives[len(lives)-1].Session
	key, ok := w.Key(session)
	if !ok || len(key) != 32 {
		w.t.Fatalf("session %d has no key", session)
	}
	return session, key
}

func hello(nonce string) string { return "J01\x01" + nonce + rep("\x00", 76) }

func sealed(body, key string) string { return body + tag(key, body) }

// connect is one with a cookie.
func connect(d api.Datagram, name, secret string) string {
	return sealed("J01\x03"+d.Nonce+eight(d.Epoch)+d.Cookie+string([]byte{byte(len(name))})+name, secret)
}

// command is one with full throttle.
func command(session, seq uint64, key string) string {
	return driven(session, seq, "\x64\x00\x00", key)
}

// driven is one with these three bytes: throttle, turn, flags.
func driven(session, seq uint64, how, key string) string {
	return sealed("J01\x05"+eight(session)+eight(seq)+how, key)
}

func bye(session, seq uint64, key string) string {
	return sealed("J01\x07"+eight(session)+eight(seq), key)
}

// kinds are those of a ledger's entries.
func kinds(l []api.Entry) []int {
	var list []int
	for _, x := range l {
		list = append(list, x.Kind)
	}
	return list
}

func (w world) wantKinds(want ...int) {
	w.t.Helper()
	if got := kinds(w.Ledger()); !slices.Equal(got, want) {
		w.t.Fatalf("the ledger has the kinds %v, want %v", got, want)
	}
}

func (w world) wantLives(want ...api.Live) {
	w.t.Helper()
	if got := w.Lives(); !slices.Equal(got, want) {
		w.t.Fatalf("lives %+v, want %+v", got, want)
	}
}

func (w world) wantCounts(want api.Counts) {
	w.t.Helper()
	if got := w.Counts(); got != want {
		w.t.Fatalf("counts %+v, want %+v", got, want)
	}
}

// wantSent asks for the kinds, sessions and seqs of what waits.
func (w world) wantSent(want ...api.Datagram) {
	w.t.Helper()
	var got []api.Datagram
	for _, x := range w.Waiting() {
		d, e := frame.Decode(x.Data)
		if e != api.OK {
			w.t.Fatalf("%q is sent: %v", x.Data, e)
		}
		got = append(got, api.Datagram{Kind: d.Kind, Session: d.Session, Seq: d.Seq})
	}
	if !slices.Equal(got, want) {
		w.t.Fatalf("%+v wait, want %+v", got, want)
	}
}

func sent(kind int, session, seq uint64) api.Datagram {
	return api.Datagram{Kind: kind, Session: session, Seq: seq}
}

// Examples 1.
func TestExampleNew(t *testing.T) {
	w := begin(t, config())
	wantTold(t, "at the beginning", w, told{epoch: 1, state: rule.Empty()})
	for i, turn := range []func(c *api.Config){
		func(c *api.Config) { c.Sessions = 0 },
		func(c *api.Config) { c.Sessions = 33 },
		func(c *api.Config) { c.Output = 257 },
		func(c *api.Config) { c.Accounts[1].Secret = rep("b", 31) },
		func(c *api.Config) { c.Accounts[1].Name = "Ann" },
	} {
		c := config()
		turn(&c)
		wantNew(t, i, c, api.ErrConfig)
	}
	c := config()
	c.Board = "###"
	wantNew(t, "###", c, api.ErrBoard)
}

// Examples 2.
func TestExampleEvents(t *testing.T) {
	w := begin(t, config())
	for _, x := range []struct {
		e       api.Event
		want    api.Errno
		ignored int
	}{
		{api.Event{Kind: api.EvTake, N: 5}, api.OK, 0},
		{api.Event{Kind: api.EvTake, N: -1}, api.OK, 1},
		{api.Event{Kind: api.EvDraw, Data: rep("d", 31)}, api.OK, 2},
		{api.Event{Kind: 9}, api.ErrEvent, 2},
	} {
		if out, e := w.Do(x.e); len(out) != 0 || e != x.want {
			t.Errorf("%+v: %q, %v, want %v", x.e, out, e, x.want)
		}
		wantTold(t, "behind it", w, told{epoch: 1, counts: api.Counts{Ignored: x.ignored}})
	}
}

// Examples 3.
func TestExampleHello(t *testing.T) {
	w := begin(t, config())
	w.say("x", hello(nonce), api.OK)
	w.wantCounts(api.Counts{Hellos: 1})
	out := w.Waiting()
	if len(out) != 1 || out[0].To != "x" || len(out[0].Data) != 60 {
		t.Fatalf("%q", out)
	}
	pool := derive(rep("s", 32), "pool")
	want := "J01\x02" + nonce + eight(1) + derive(derive(pool, "cookie"), "cookie", "x", nonce, eight(1))
	if out[0].Data != want {
		t.Errorf("%x, want %x", out[0].Data, want)
	}
	w.say("x", hello(nonce)[:95], api.ErrLength)
	w.say("x", "", api.ErrMagic)
	w.wantCounts(api.Counts{Hellos: 1, Refused: 2})
}

// Examples 4 to 6: a play.
func TestExamplePlay(t *testing.T) {
	w := begin(t, config())
	w.say("x", hello(nonce), api.OK)
	d, _ := frame.Decode(w.Waiting()[0].Data)
	join := connect(d, "ann", accounts[0].Secret)
	w.say("x", join, api.OK)
	ann := api.Live{Session: 1, Name: "ann", From: "x"}
	w.wantLives(ann)
	if s := w.State(); len(s.Cars) != 1 || s.Cars[0].Player != 0 || s.Cars[0].Name != "ann" {
		t.Fatalf("%+v", s)
	}
	if l := w.Ledger(); !slices.Equal(l, []api.Entry{{Kind: api.LbJoin, Session: 1, Name: "ann", From: "x", Data: join}}) {
		t.Fatalf("%+v", l)
	}
	w.say("x", join, api.ErrTaken)
	w.say("y", join, api.ErrCookie)
	w.say("x", join, api.ErrRate)

	key, _ := w.Key(1)
	salt := derive(derive(rep("s", 32), "pool"), "salt", eight(1))[:16]
	if key != derive(rep("a", 32), "session", nonce, salt, eight(1)) {
		t.Fatalf("the key is %x", key)
	}
	w.say("x", command(1, 1, key), api.OK)
	w.say("x", command(1, 1, key), api.ErrSeen)
	w.say("x", command(1, 2, key), api.ErrExcess)
	w.say("x", command(1, 66, key), api.ErrFar)
	w.say("y", command(1, 1, key), api.ErrSource)
	w.say("x", command(1, 1, rep("k", 32)), api.ErrTag)
	w.say("x", command(2, 1, key), api.ErrSession)

	w.tick()
	s := w.State()
	if s.Tick != 1 || s.Cars[0].At != (api.Vec{X: 790272, Y: 786432}) {
		t.Fatalf("%+v", s)
	}
	w.wantKinds(api.LbJoin, api.LbCommand, api.LbTick)
	w.wantSent(sent(api.KdCookie, 0, 0), sent(api.KdWelcome, 1, 0), sent(api.KdSnapshot, 1, 1))
	ann.High, ann.Sent = 1, 1
	w.wantLives(ann)
	out := w.Waiting()
	if want := sealed("J01\x04"+nonce+eight(1)+"\x00"+salt, key); out[1] != (api.Out{To: "x", Data: want}) {
		t.Errorf("the welcome is %q", out[1])
	}
	session, seq, v, e := snap.Open(out[2].Data, key)
	if own, _ := view.Of(s, 0, 20, 4); e != api.OK || session != 1 || seq != 1 || out[2].To != "x" || !view.Equal(v, own) {
		t.Errorf("the snapshot is %d, %d, %+v, %v", session, seq, v, e)
	}
	w.wantCounts(api.Counts{Hellos: 1, Accepted: 2, Refused: 9})
}

// Examples 7: with a queue that is never emptied, and with one that has room.
func TestExampleIdle(t *testing.T) {
	for _, empty := range []bool{false, true} {
		w := begin(t, config())
		_, key := w.join("x", accounts[0])
		w.say("x", command(1, 1, key), api.OK)
		for range 10 {
			w.tick()
			if empty {
				w.take(100)
			}
		}
		if l := w.Lives(); len(l) != 1 || l[0].Heard != 0 {
			t.Fatalf("at tick 10: %+v", l)
		}
		w.tick()
		w.wantLives()
		if s := w.State(); len(s.Cars) != 0 || s.Tick != 11 {
			t.Errorf("at tick 11: %+v", s)
		}
		if empty {
			w.wantSent(sent(api.KdBye, 1, 11))
		} else if out := w.Waiting(); len(out) != 8 || w.Counts().Dropped != 3 {
			t.Errorf("%d wait, %+v", len(out), w.Counts())
		}
		l := w.Ledger()
		left := l[len(l)-2]
		if left != (api.Entry{Kind: api.LbLeave, Tick: 10, Session: 1, Name: "ann", From: "x"}) || l[len(l)-1] != (api.Entry{Kind: api.LbTick, Tick: 10}) {
			t.Errorf("the ledger ends with %+v", l[len(l)-2:])
		}
		if labels, e := book.Labels(l); e != api.OK || len(labels) != 13 {
			t.Errorf("%d labels, %v", len(labels), e)
		}
	}
}
