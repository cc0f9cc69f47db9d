package server_test

import (
	"slices"
	"strconv"
	"testing"

	"joust/api"
	"joust/book"
	"joust/frame"
	"joust/snap"
	"joust/view"
)

// Hard place: Heard 5, Idle 3: at tick 8 it lives, at tick 9 it leaves; and Idle 1 likewise.
func TestIdleEdge(t *testing.T) {
	for _, idle := range []int{1, 2, 3, 7} {
		c := wide()
		c.Idle = idle
		w := begin(t, c)
		w.ticks(5)
		session, _ := w.join("x", accounts[0])
		if l := w.Lives(); l[0].Heard != 5 {
			t.Fatalf("%+v", l)
		}
		w.ticks(idle)
		if _, ok := w.Key(session); !ok || len(w.Lives()) != 1 {
			t.Fatalf("idle %d: at tick %d it is over", idle, 5+idle)
		}
		w.tick()
		if _, ok := w.Key(session); ok || len(w.Lives()) != 0 || len(w.State().Cars) != 0 {
			t.Fatalf("idle %d: at tick %d it lives", idle, 6+idle)
		}
	}
}

// Hard place: the leaves by idleness stand ahead of the tick in the ledger, by their sessions; their byes ahead of the snapshots; their players are free; their cars are not in that tick.
func TestIdleOrder(t *testing.T) {
	c := wide()
	c.Idle = 3
	w := begin(t, c)
	_, annKey := w.join("x", accounts[0])
	w.tick()
	_, bobKey := w.join("y", accounts[1])
	_, cyKey := w.join("z", accounts[2])
	w.tick()
	w.say("x", command(1, 1, annKey), api.OK)
	w.ticks(2)
	w.say("x", command(1, 2, annKey), api.OK)
	w.take(1000)
	entries := len(w.Ledger())
	w.tick()
	if l := w.Lives(); len(l) != 1 || l[0].Session != 1 || l[0].Sent != 5 {
		t.Fatalf("%+v", l)
	}
	want := []api.Entry{
		{Kind: api.LbLeave, Tick: 4, Session: 2, Player: 1, Name: "bob", From: "y"},
		{Kind: api.LbLeave, Tick: 4, Session: 3, Player: 2, Name: "Cy_9", From: "z"},
		{Kind: api.LbTick, Tick: 4},
	}
	if l := w.Ledger()[entries:]; !slices.Equal(l, want) {
		t.Fatalf("%+v, want %+v", l, want)
	}
	out := w.Waiting()
	for i, x := range []api.Out{{To: "y", Data: bye(2, 4, bobKey)}, {To: "z", Data: bye(3, 4, cyKey)}} {
		if out[i] != x {
			t.Errorf("%d: %q, want %q", i, out[i], x)
		}
	}
	w.wantSent(sent(api.KdBye, 2, 4), sent(api.KdBye, 3, 4), sent(api.KdSnapshot, 1, 5))
	s := w.State()
	if len(s.Cars) != 1 || s.Cars[0].Player != 0 {
		t.Errorf("%+v", s)
	}
	w.say("z", connect(w.cookie("z"), "BOB", accounts[1].Secret), api.OK)
	if l := w.Lives(); len(l) != 2 || l[1] != (api.Live{Session: 4, Player: 1, Name: "BOB", From: "z", Heard: 5}) {
		t.Errorf("%+v", l)
	}
}

// Hard place: a car of one that leaves by idleness is not in that tick: nobody bumps into it, and its shots do not fly.
func TestIdleCarIsGone(t *testing.T) {
	c := wide()
	c.Idle, c.Board = 2, boards[3]
	w := begin(t, c)
	_, annKey := w.join("x", accounts[0])
	_, bobKey := w.join("y", accounts[1])
	w.say("y", driven(2, 1, "\x00\x00\x01", bobKey), api.OK)
	w.tick()
	w.say("x", command(1, 1, annKey), api.OK)
	w.ticks(1)
	if s := w.State(); len(s.Shots) != 1 || len(s.Cars) != 2 {
		t.Fatalf("%+v", s)
	}
	w.say("x", command(1, 2, annKey), api.OK)
	w.tick()
	s := w.State()
	if len(s.Cars) != 1 || len(s.Shots) != 0 || s.Tick != 3 {
		t.Errorf("%+v", s)
	}
	labels, _ := book.Labels(w.Ledger())
	last := labels[len(labels)-2:]
	if last[0].Kind != api.LbLeave || last[0].Player != 1 || last[1].Kind != api.LbTick || len(last[1].Intents) != 1 {
		t.Errorf("%+v", last)
	}
}

// Hard place: an accepted command ahead of the tick at which its session would leave saves it; one that is refused does not, nor a hello, nor another's.
func TestIdleSaved(t *testing.T) {
	for _, x := range []struct {
		name string
		seq  uint64
		from string
		want api.Errno
	}{{"accepted", 1, "x", api.OK}, {"far", 65, "x", api.ErrFar}, {"old", 0, "x", api.ErrOld}, {"another source", 1, "y", api.ErrSource}} {
		w := begin(t, wide())
		_, key := w.join("x", accounts[0])
		w.ticks(10)
		w.say(x.from, command(1, x.seq, key), x.want)
		w.say("x", hello(nonce), api.OK)
		w.tick()
		if saved := len(w.Lives()) == 1; saved != (x.want == api.OK) {
			t.Errorf("%s: saved %v", x.name, saved)
		}
		w.ticks(9)
		if saved := len(w.Lives()) == 1; saved != (x.want == api.OK) {
			t.Errorf("%s: saved for 10 ticks %v", x.name, saved)
		}
		w.tick()
		w.wantLives()
	}
}

// R5: a bye that finds no room is dropped, the session leaves all the same.
func TestIdleByeDropped(t *testing.T) {
	c := wide()
	c.Output, c.Idle = 1, 1
	w := begin(t, c)
	w.join("x", accounts[0])
	w.join("y", accounts[1])
	w.tick()
	w.wantSent(sent(api.KdSnapshot, 1, 1))
	w.wantCounts(api.Counts{Hellos: 2, Accepted: 2, Dropped: 1})
	w.tick()
	w.wantLives()
	w.wantCounts(api.Counts{Hellos: 2, Accepted: 2, Dropped: 3})
	w = begin(t, c)
	w.join("x", accounts[0])
	w.join("y", accounts[1])
	w.tick()
	w.take(1)
	w.tick()
	w.wantSent(sent(api.KdBye, 1, 2))
	w.wantCounts(api.Counts{Hellos: 2, Accepted: 2, Dropped: 2})
}

// R4, R5: the epoch ends at each multiple of Life; its secret hangs on the one ahead and on the pool as it is then; salts on the pool as it is at the join.
func TestEpochs(t *testing.T) {
	for _, life := range []int{1, 2, 5} {
		c := wide()
		c.Life, c.Idle = life, 1000
		w := begin(t, c)
		pool := derive(c.Seed, "pool")
		secret, epoch := derive(pool, "cookie"), uint64(1)
		for tick := 1; tick <= 12; tick++ {
			chance := rep(strconv.Itoa(tick%10), 32)
			if tick%3 != 0 {
				w.draw(chance)
				w.draw(chance[1:])
				pool = derive(pool, "draw", chance)
			}
			w.tick()
			if tick%life == 0 {
				epoch++
				secret = derive(secret, "turn", pool)
			}
			if d := w.cookie("x"); w.Epoch() != epoch || d.Epoch != epoch || d.Cookie != derive(secret, "cookie", "x", nonce, eight(epoch)) {
				t.Fatalf("life %d, tick %d: epoch %d, want %d, or another cookie", life, tick, w.Epoch(), epoch)
			}
			if tick > len(accounts) {
				continue
			}
			a := accounts[tick-1]
			session, key := w.join("x", a)
			salt := derive(pool, "salt", eight(session))[:16]
			if key != derive(a.Secret, "session", nonce, salt, eight(session)) || session != uint64(tick) {
				t.Fatalf("life %d, tick %d: another key, or session %d", life, tick, session)
			}
		}
	}
}

// R4: a draw of 32 bytes changes nothing that is told, and no cookie of the current epoch; another one is ignored.
func TestDraw(t *testing.T) {
	w := begin(t, config())
	cookie := w.cookie("x").Cookie
	before := tell(w)
	w.draw(rep("d", 32))
	wantTold(t, "behind a draw", w, before)
	if w.cookie("x").Cookie != cookie {
		t.Error("another cookie behind a draw")
	}
	for i, n := range []int{0, 1, 31, 33, 64, 1201} {
		before := tell(w)
		w.draw(rep("d", n))
		before.counts.Ignored++
		wantTold(t, "behind a draw of another length", w, before)
		if before.counts.Ignored != i+1 {
			t.Errorf("%d draws: %+v", i+1, before.counts)
		}
	}
}

// Hard place: a cookie is taken in its epoch and the next one; behind that it is ErrEpoch; epoch 0 always is.
func TestCookieLife(t *testing.T) {
	for _, x := range []struct {
		ahead, between int
		want           api.Errno
	}{{0, 0, api.OK}, {0, 4, api.OK}, {0, 5, api.OK}, {0, 9, api.OK}, {0, 10, api.ErrEpoch}, {4, 5, api.OK}, {4, 6, api.ErrEpoch}, {5, 9, api.OK}, {5, 10, api.ErrEpoch}, {0, 100, api.ErrEpoch}} {
		c := wide()
		w := begin(t, c)
		w.ticks(x.ahead)
		d := w.cookie("x")
		w.ticks(x.between)
		zero, next := d, d
		zero.Epoch, next.Epoch = 0, w.Epoch()+1
		w.wantRefused("x", connect(zero, "ann", accounts[0].Secret), api.ErrEpoch)
		w.wantRefused("x", connect(next, "ann", accounts[0].Secret), api.ErrEpoch)
		w.say("x", connect(d, "ann", accounts[0].Secret), x.want)
	}
}

// R6: a cookie is for its source, its nonce and its epoch.
func TestCookieOthers(t *testing.T) {
	w := begin(t, wide())
	d := w.cookie("x")
	for _, from := range []string{"", "y", "xx", "X", "x\x00"} {
		w.wantRefused(from, connect(d, "ann", accounts[0].Secret), api.ErrCookie)
	}
	other := d
	other.Nonce = "0123456789abcdeg"
	w.wantRefused("x", connect(other, "ann", accounts[0].Secret), api.ErrCookie)
	w.ticks(5)
	other = d
	other.Epoch = 2
	w.wantRefused("x", connect(other, "ann", accounts[0].Secret), api.ErrCookie)
	w.say("x", connect(d, "ann", accounts[0].Secret), api.OK)
}

// R6: an accepted connect, whole: numbers, the lowest free player, Heard, the spelling, the welcome, the ledger, the car.
func TestJoin(t *testing.T) {
	c := wide()
	c.Board = boards[2]
	w := begin(t, c)
	w.ticks(3)
	for i, spelt := range []string{"ANN", "Bob", "cy_9", "d\u00c4N"} {
		from := "source " + strconv.Itoa(i)
		data := connect(w.cookie(from), spelt, accounts[i].Secret)
		before := tell(w)
		w.say(from, data, api.OK)
		live := api.Live{Session: uint64(i + 1), Player: i, Name: spelt, From: from, Heard: 3}
		key, _ := w.Key(live.Session)
		salt := derive(derive(c.Seed, "pool"), "salt", eight(live.Session))[:16]
		want := before
		want.counts.Accepted++
		want.lives = append(want.lives, live)
		want.keys = append(want.keys, derive(accounts[i].Secret, "session", nonce, salt, eight(live.Session)))
		want.waiting = append(want.waiting, api.Out{To: from, Data: sealed("J01\x04"+nonce+eight(live.Session)+string([]byte{byte(i)})+salt, key)})
		want.ledger = append(want.ledger, api.Entry{Kind: api.LbJoin, Tick: 3, Session: live.Session, Player: i, Name: spelt, From: from, Data: data})
		want.state.Cars = append(want.state.Cars, w.State().Cars[i])
		wantTold(t, "behind a connect", w, want)
		if x := w.State().Cars[i]; x.Name != spelt || x.Player != i || x.Health != 100 {
			t.Errorf("%+v", x)
		}
	}
	for _, session := range []uint64{2, 1} {
		key, _ := w.Key(session)
		w.say("source "+strconv.Itoa(int(session-1)), bye(session, 1, key), api.OK)
	}
	for i, want := range []api.Live{{Session: 5, Player: 0, Name: "bob", From: "x", Heard: 3}, {Session: 6, Player: 1, Name: "abcdefghijkl", From: "x", Heard: 3}, {Session: 7, Player: 4, Name: "ann", From: "x", Heard: 3}} {
		a := []api.Account{accounts[1], accounts[4], accounts[0]}[i]
		w.join("x", a)
		if l := w.Lives(); l[len(l)-1] != want {
			t.Errorf("%+v, want %+v", l[len(l)-1], want)
		}
	}
	if s := w.State(); len(s.Cars) != 5 || !slices.IsSortedFunc(s.Cars, func(a, b api.Car) int { return a.Player - b.Player }) {
		t.Errorf("%+v", s.Cars)
	}
}

// Hard place: the same connect again while its session lives is ErrTaken; behind a bye it begins another session, with another salt and key; old commands are of no session, and with the new number they have another tag.
func TestConnectAgain(t *testing.T) {
	w := begin(t, wide())
	data := connect(w.cookie("x"), "ann", accounts[0].Secret)
	w.say("x", data, api.OK)
	_, key := w.last()
	old := command(1, 1, key)
	w.say("x", old, api.OK)
	w.wantRefused("x", data, api.ErrTaken)
	w.say("x", bye(1, 2, key), api.OK)
	w.take(100)
	w.say("x", data, api.OK)
	session, other := w.last()
	if session != 2 || other == key {
		t.Fatalf("session %d, or the same key", session)
	}
	d, _ := frame.Decode(w.Waiting()[0].Data)
	if d.Kind != api.KdWelcome || d.Salt == derive(derive(rep("s", 32), "pool"), "salt", eight(1))[:16] {
		t.Errorf("%+v", d)
	}
	w.wantRefused("x", old, api.ErrSession)
	w.wantRefused("x", command(2, 1, key), api.ErrTag)
	w.wantRefused("x", old[:11]+"\x02"+old[12:], api.ErrTag)
	w.say("x", command(2, 1, other), api.OK)
}

// Hard place: sessions' numbers go on through all; a refused connect uses none up.
func TestNumbersGoOn(t *testing.T) {
	c := wide()
	c.Sessions, c.Idle = 1, 1
	w := begin(t, c)
	for n := range uint64(8) {
		d := w.cookie("x")
		w.say("x", connect(d, "dan", ""), api.ErrAccount)
		w.say("x", connect(d, "ann", ""), api.ErrTag)
		w.say("x", connect(d, "ann", accounts[0].Secret), api.OK)
		w.say("x", connect(d, "ann", accounts[0].Secret), api.ErrTaken)
		w.say("x", connect(d, "bob", accounts[1].Secret), api.ErrFull)
		session, key := w.last()
		if session != n+1 || w.Lives()[0].Player != 0 {
			t.Fatalf("%+v", w.Lives())
		}
		if n%2 == 0 {
			w.say("x", bye(session, 1, key), api.OK)
		} else {
			w.ticks(2)
		}
	}
}

// Hard place: a bye takes its session's waiting intent with it, and a session that begins behind it with the same player has none of it.
func TestByeDropsIntent(t *testing.T) {
	w := begin(t, wide())
	_, key := w.join("x", accounts[0])
	_, bobKey := w.join("y", accounts[1])
	w.say("x", driven(1, 1, "\x64\x08\x01", key), api.OK)
	w.say("y", command(2, 1, bobKey), api.OK)
	w.say("x", bye(1, 2, key), api.OK)
	w.join("z", accounts[0])
	w.tick()
	s := w.State()
	if len(s.Shots) != 0 || s.Cars[0].Heading != 0 || s.Cars[0].Speed != (api.Vec{}) || s.Cars[1].Speed != (api.Vec{X: 3840}) {
		t.Errorf("%+v", s)
	}
	labels, e := book.Labels(w.Ledger())
	if last := labels[len(labels)-1]; e != api.OK || !slices.Equal(last.Intents, []api.Intent{{Player: 1, Throttle: 100}}) {
		t.Errorf("%+v, %v", last, e)
	}
	_, key = w.last()
	w.say("z", command(3, 1, key), api.OK)
}

// R6: a command's numbers are made legal, and wait for the next tick alone.
func TestIntents(t *testing.T) {
	w := begin(t, wide())
	_, key := w.join("x", accounts[0])
	_, bobKey := w.join("y", accounts[1])
	w.say("y", driven(2, 1, "\x80\x80\x03", bobKey), api.OK)
	w.say("x", driven(1, 1, "\x7f\x7f\x00", key), api.OK)
	w.ticks(2)
	w.say("x", driven(1, 2, "\x05\xfd\x02", key), api.OK)
	w.tick()
	labels, e := book.Labels(w.Ledger())
	if e != api.OK || len(labels) != 5 {
		t.Fatalf("%+v, %v", labels, e)
	}
	for i, want := range [][]api.Intent{
		{{Player: 0, Throttle: 100, Turn: 8}, {Player: 1, Throttle: -100, Turn: -8, Fire: true, Boost: true}},
		nil,
		{{Player: 0, Throttle: 5, Turn: -3, Boost: true}},
	} {
		if got := labels[2+i].Intents; !slices.Equal(got, want) {
			t.Errorf("tick %d: %+v, want %+v", i+1, got, want)
		}
	}
}

// R6: a wreck's intent is accepted.
func TestWreckCommands(t *testing.T) {
	c := wide()
	c.Board, c.Idle = boards[3], 1000
	w := begin(t, c)
	_, key := w.join("x", accounts[0])
	_, bobKey := w.join("y", accounts[1])
	wrecked := 0
	for n := range uint64(200) {
		w.say("x", driven(1, n+1, "\x00\x00\x01", key), api.OK)
		w.say("y", driven(2, n+1, "\x10\x00\x00", bobKey), api.OK)
		w.tick()
		w.take(1000)
		if s := w.State(); s.Cars[1].Wait > 0 {
			wrecked++
		}
	}
	if s := w.State(); wrecked < 40 || s.Cars[0].Score == 0 {
		t.Errorf("%d ticks as a wreck: %+v", wrecked, s)
	}
}

// R6: a session's bucket is full at its join; a tick brings a sixteenth of Rate tokens, never above Burst.
func TestSessionRate(t *testing.T) {
	for _, x := range []struct{ rate, burst int }{{0, 1}, {0, 3}, {1, 2}, {8, 1}, {8, 3}, {16, 2}, {24, 2}, {1000, 3}} {
		c := wide()
		c.Rate, c.Burst, c.Idle, c.Output = x.rate, x.burst, 1000, 1
		w := begin(t, c)
		w.ticks(7)
		_, key := w.join("x", accounts[0])
		holds, seq := 16*x.burst, uint64(0)
		for tick := range 60 {
			want := api.ErrRate
			if holds >= 16 {
				want = api.OK
				holds -= 16
			}
			// Behind 40 ticks there is a pause, in which tokens gather.
			if tick < 40 || tick > 50 {
				w.say("x", command(1, seq+1, key), want)
				if want == api.OK {
					seq++
				}
			} else if want == api.OK {
				holds += 16
			}
			w.tick()
			holds = min(holds+x.rate, 16*x.burst)
		}
	}
}

// R6: a source's bucket likewise, by SourceRate and SourceBurst.
func TestSourceRate(t *testing.T) {
	for _, x := range []struct{ rate, burst int }{{0, 1}, {1, 2}, {8, 1}, {8, 3}, {16, 2}, {24, 2}, {1000, 3}} {
		c := wide()
		c.SourceRate, c.SourceBurst, c.Life, c.Output = x.rate, x.burst, 100000, 1
		w := begin(t, c)
		w.ticks(7)
		data := connect(w.cookie("x"), "dan", "")
		w.wantRefused("x", data, api.ErrAccount)
		holds := 16 * (x.burst - 1)
		for _, pause := range []int{0, 0, 1, 2, 1, 1, 5, 15, 16, 17, 1, 100, 0, 0, 0, 1} {
			w.ticks(pause)
			holds = min(holds+pause*x.rate, 16*x.burst)
			want := api.ErrRate
			if holds >= 16 {
				want = api.ErrAccount
				holds -= 16
			}
			w.wantRefused("x", data, want)
		}
	}
}

// Limits: the 65th source throws out the one longest unused, which has a full bucket when it comes again. A connect whose cookie is right uses its source, also one that is refused by ErrRate; hellos, wrong cookies, commands and byes use none.
func TestSources(t *testing.T) {
	c := wide()
	c.SourceBurst, c.SourceRate, c.Life, c.Idle = 2, 0, 100000, 100000
	w := begin(t, c)
	cookies := map[string]api.Datagram{}
	for i := range 70 {
		from := strconv.Itoa(i)
		cookies[from] = w.cookie(from)
	}
	try := func(from string, want api.Errno) {
		t.Helper()
		w.wantRefused(from, connect(cookies[from], "dan", ""), want)
	}
	drain := func(from string) {
		t.Helper()
		try(from, api.ErrAccount)
		try(from, api.ErrAccount)
		try(from, api.ErrRate)
	}
	for i := range 64 {
		drain(strconv.Itoa(i))
	}
	try("0", api.ErrRate) // so 1 is the one longest unused
	w.say("1", hello(nonce), api.OK)
	wrong := cookies["1"]
	wrong.Cookie = rep("?", 32)
	w.wantRefused("1", connect(wrong, "ann", accounts[0].Secret), api.ErrCookie)
	wrong.Epoch = 7
	w.wantRefused("1", connect(wrong, "ann", accounts[0].Secret), api.ErrEpoch)
	w.wantRefused("1", command(1, 1, ""), api.ErrSession)
	drain("64") // 1 goes
	drain("1")  // 2 goes, and 1 had a full bucket
	for i := range 66 {
		if i != 2 && i != 65 {
			try(strconv.Itoa(i), api.ErrRate)
		}
	}
	drain("2") // 0 goes
	drain("0") // 1 goes
	try("64", api.ErrRate)
	drain("1")
	w.say("65", connect(cookies["65"], "ann", accounts[0].Secret), api.OK)
}

// Limits: a source's name is any text, and a session's own source sends its commands.
func TestAnySource(t *testing.T) {
	w := begin(t, wide())
	for i, from := range []string{"", "\x00", "\xff\xfe", "a b", rep("long", 1000), "x"} {
		session, key := w.join(from, accounts[i])
		w.say(from, command(session, 1, key), api.OK)
		w.wantRefused(from+"x", command(session, 2, key), api.ErrSource)
	}
	w.tick()
	for i, x := range w.Waiting() {
		if x.To != w.Lives()[i].From {
			t.Errorf("%d: to %q", i, x.To)
		}
	}
}

// Hard place: a full queue: a welcome is dropped, the session lives all the same; snapshots that are dropped have no seq.
func TestFullQueue(t *testing.T) {
	c := wide()
	c.Output = 2
	w := begin(t, c)
	d := w.cookie("x")
	w.say("y", hello(nonce), api.OK)
	w.say("z", hello(nonce), api.OK)
	before := tell(w)
	w.say("z", hello(nonce), api.OK)
	before.counts.Hellos++
	before.counts.Dropped++
	wantTold(t, "a hello at a full queue", w, before)
	w.say("x", connect(d, "ann", accounts[0].Secret), api.OK)
	if len(w.Lives()) != 1 || len(w.State().Cars) != 1 || w.Counts().Dropped != 2 || !slices.Equal(w.Waiting(), before.waiting) {
		t.Fatalf("%+v", tell(w))
	}
	w.tick()
	if l := w.Lives(); l[0].Sent != 0 || w.Counts().Dropped != 3 {
		t.Fatalf("%+v", l)
	}
	w.take(1)
	w.tick()
	w.wantSent(sent(api.KdCookie, 0, 0), sent(api.KdSnapshot, 1, 1))
	w.tick()
	w.take(2)
	w.join("y", accounts[1])
	w.join("z", accounts[2])
	w.tick()
	w.wantSent(sent(api.KdSnapshot, 1, 2), sent(api.KdSnapshot, 2, 1))
	for i, want := range []uint64{2, 1, 0} {
		if got := w.Lives()[i].Sent; got != want {
			t.Errorf("session %d: %d were sent, want %d", i+1, got, want)
		}
	}
}

// R5: takes give the first datagrams, in order, or all; what is left stays as it is.
func TestTake(t *testing.T) {
	w := begin(t, wide())
	for i := range 5 {
		w.say(strconv.Itoa(i), hello(nonce), api.OK)
	}
	all := w.Waiting()
	if len(all) != 5 || all[0].To != "0" || all[4].To != "4" {
		t.Fatalf("%q", all)
	}
	for _, n := range []int{-1, -1 << 63} {
		before := tell(w)
		if out := w.take(n); len(out) != 0 {
			t.Errorf("a take of %d: %q", n, out)
		}
		before.counts.Ignored++
		wantTold(t, "a take below 0", w, before)
	}
	want := tell(w)
	for _, n := range []int{0, 2, 1, 0, 1<<63 - 1, 3} {
		out := w.take(n)
		taken := min(n, len(want.waiting))
		if !slices.Equal(out, want.waiting[:taken]) {
			t.Errorf("a take of %d: %q", n, out)
		}
		want.waiting = want.waiting[taken:]
		wantTold(t, "a take", w, want)
	}
}

// Limits: Output at its greatest: 256 wait, and the 257th is dropped.
func TestLongQueue(t *testing.T) {
	w := begin(t, wide())
	for i := range 260 {
		w.say("x", hello(nonce), api.OK)
		if n := len(w.Waiting()); n != min(i+1, 256) {
			t.Fatalf("%d wait behind %d hellos", n, i+1)
		}
	}
	w.wantCounts(api.Counts{Hellos: 260, Dropped: 4})
	if out := w.take(1000); len(out) != 256 {
		t.Errorf("%d were taken", len(out))
	}
}

// P23.6, P0.4: behind a tick each session's snapshot, in their order, as far as there was room, opens to the view of its player, and under its own key alone.
func TestSnapshots(t *testing.T) {
	d := dice(57721566490153)
	snapshots := 0
	for _, output := range []int{1, 4, 7, 256} {
		c := wide()
		c.Output, c.Idle, c.Board, c.Radius, c.Show = output, 1000, boards[2], 25, 3
		w := begin(t, c)
		for i, a := range accounts {
			w.join(strconv.Itoa(i), a)
		}
		for n := range uint64(60) {
			for i := range accounts {
				key, _ := w.Key(uint64(i + 1))
				w.say(strconv.Itoa(i), driven(uint64(i+1), n+1, d.bytes(2)+string([]byte{byte(d.below(4))}), key), api.OK)
			}
			w.take(d.below(4) * 1000)
			before, lives := w.Waiting(), w.Lives()
			w.tick()
			made := w.Waiting()[len(before):]
			if len(made) != min(len(lives), output-len(before)) {
				t.Fatalf("%d snapshots behind %d datagrams", len(made), len(before))
			}
			for i, x := range made {
				w.wantSnapshot(x, lives[i], c)
				snapshots++
			}
			for i, l := range w.Lives() {
				if i < len(made) {
					lives[i].Sent++
				}
				if l != lives[i] {
					t.Fatalf("%+v, want %+v", l, lives[i])
				}
			}
		}
	}
	if snapshots < 300 {
		t.Errorf("only %d snapshots", snapshots)
	}
}

// wantSnapshot asks that a datagram is the next snapshot of a session.
func (w world) wantSnapshot(x api.Out, l api.Live, c api.Config) {
	w.t.Helper()
	want, e := view.Of(w.State(), l.Player, c.Radius, c.Show)
	if e != api.OK {
		w.t.Fatal(e)
	}
	for _, other := range w.Lives() {
		key, _ := w.Key(other.Session)
		session, seq, v, e := snap.Open(x.Data, key)
		if other.Session != l.Session {
			if e != api.ErrTag {
				w.t.Fatalf("session %d opens another's snapshot: %v", other.Session, e)
			}
			continue
		}
		if e != api.OK || session != l.Session || seq != l.Sent+1 || x.To != l.From || !view.Equal(v, want) {
			w.t.Fatalf("to %q: %d, %d, %+v, %v, want %+v", x.To, session, seq, v, e, want)
		}
	}
}
