package server_test

import (
	"fmt"
	"math"
	"slices"
	"strconv"
	"testing"

	"joust/api"
	"joust/board"
	"joust/book"
	"joust/frame"
	"joust/rule"
	"joust/server"
)

// rounds are fewer in a short run.
func rounds(n int) int {
	if testing.Short() {
		return max(1, n/10)
	}
	return n
}

// script is any one, with its configuration, and the plain server that played it.
func (d *dice) script(t *testing.T, c api.Config, events int) ([]api.Event, *plain) {
	k := d.cast(t, c)
	var l []api.Event
	for range events {
		e := k.event()
		k.p.Do(e)
		l = append(l, e)
	}
	return l, k.p
}

// P23.1, R3 to R7, R10: behind every event of any script a server answers and tells what the document says. All refusals are met.
func TestAnyScript(t *testing.T) {
	d := dice(2718281828459)
	met := map[api.Errno]int{}
	for i := range rounds(250) {
		c := d.config()
		k := d.cast(t, c)
		s := begun(t, c)
		for range 300 {
			met[wantDo(t, "script "+strconv.Itoa(i), s, k.p, k.event())]++
		}
	}
	for _, e := range []api.Errno{api.OK, api.ErrMagic, api.ErrKind, api.ErrLength, api.ErrField, api.ErrRate, api.ErrOld, api.ErrSeen, api.ErrFar, api.ErrEpoch, api.ErrCookie, api.ErrFull, api.ErrAccount, api.ErrTaken, api.ErrSession, api.ErrSource, api.ErrTag, api.ErrExcess, api.ErrEvent} {
		if met[e] == 0 {
			t.Errorf("no script meets %v", e)
		}
	}
}

// The same of a full lobby that plays for long, on a board on which all meet.
func TestLongMatch(t *testing.T) {
	c := wide()
	c.Sessions, c.Accounts, c.Idle, c.Life, c.Show, c.Board = 32, crowd(40), 30, 50, 32, boards[2]
	d := dice(1732050807568)
	k := d.cast(t, c)
	s := begun(t, c)
	for range rounds(1000) {
		for range 3 {
			from := k.source()
			k.same(t, s, api.Event{Kind: api.EvData, From: from, Data: k.connect(from)})
		}
		for _, l := range k.p.Lives() {
			key, _ := k.p.Key(l.Session)
			if !k.one(5) {
				k.same(t, s, api.Event{Kind: api.EvData, From: l.From, Data: driven(l.Session, l.High+1, k.bytes(2)+string([]byte{byte(k.below(4))}), key)})
			}
		}
		k.same(t, s, api.Event{Kind: api.EvTick})
		k.same(t, s, api.Event{Kind: api.EvTake, N: 40})
		if got, want := s.State(), k.p.State(); !rule.Equal(got, want) {
			t.Fatalf("%+v, want %+v", got, want)
		}
	}
	wantTold(t, "at the end", s, tell(k.p))
	if len(k.p.list) != 32 && !testing.Short() {
		t.Errorf("%d play", len(k.p.list))
	}
}

func (k *cast) same(t *testing.T, s servers, e api.Event) {
	t.Helper()
	out, got := s.Do(e)
	wantOut, want := k.p.Do(e)
	if got != want || !slices.Equal(out, wantOut) {
		t.Fatalf("%+v: %q, %v, want %q, %v", e, out, got, wantOut, want)
	}
}

// P23.1: fields that an event's kind does not look at may be anything.
func TestOtherFields(t *testing.T) {
	d := dice(16021766340)
	for range rounds(30) {
		c := d.config()
		l, _ := d.script(t, c, 200)
		s, other := begun(t, c), begun(t, c)
		for _, e := range l {
			x := e
			if e.Kind != api.EvData {
				x.From = pick(&d, someSources...)
			}
			if e.Kind != api.EvData && e.Kind != api.EvDraw {
				x.Data = d.bytes(pick(&d, 0, 32, 1300))
			}
			if e.Kind != api.EvTake {
				x.N = pick(&d, -1, 0, 1, 1000)
			}
			out, err := s.Do(x)
			if want, wantErr := other.Do(e); err != wantErr || !slices.Equal(out, want) {
				t.Fatalf("%+v: %q, %v, want %q, %v", x, out, err, want, wantErr)
			}
			wantTold(t, fmt.Sprintf("behind %+v", x), s, tell(other))
		}
	}
}

// P23.1: an event of another kind is ErrEvent, whatever it has, and changes nothing.
func TestOtherKinds(t *testing.T) {
	w := begin(t, wide())
	_, key := w.join("x", accounts[0])
	w.say("y", hello(nonce), api.OK)
	before := tell(w)
	for _, kind := range []int{0, 5, 6, -1, -4, 9, 255, 257, 260, 1<<32 + 2, math.MaxInt, math.MinInt} {
		for _, data := range []string{"", rep("d", 32), hello(nonce), command(1, 1, key)} {
			if out, e := w.Do(api.Event{Kind: kind, From: "x", Data: data, N: 1}); e != api.ErrEvent || len(out) != 0 {
				t.Errorf("kind %d: %q, %v", kind, out, e)
			}
			wantTold(t, "behind another kind", w, before)
		}
	}
}

// P23.2, P0.1: behind every event the arena is that of the ledger replayed, the ledger grows only at its end, and each tick's label has at most one legal intent for each player that is there.
func TestLedger(t *testing.T) {
	d := dice(6022140760)
	for range rounds(40) {
		c := d.config()
		walls, _ := board.Parse(c.Board)
		l, _ := d.script(t, c, 250)
		s := begun(t, c)
		var ledger []api.Entry
		for _, e := range l {
			s.Do(e)
			now := s.Ledger()
			if len(now) < len(ledger) || !slices.Equal(now[:len(ledger)], ledger) {
				t.Fatalf("behind %+v the ledger is not what it was, and more", e)
			}
			ledger = now
			if arena, err := book.Replay(walls, ledger); err != api.OK || !rule.Equal(s.State(), arena) {
				t.Fatalf("behind %+v: %+v, want %+v, %v", e, s.State(), arena, err)
			}
		}
		wantLegal(t, walls, ledger)
	}
}

// wantLegal asks for each tick's label at most one legal intent of each player that is there, and for the Rulebook's going along.
func wantLegal(t *testing.T, walls *board.Board, ledger []api.Entry) {
	t.Helper()
	labels, e := book.Labels(ledger)
	if e != api.OK {
		t.Fatal(e)
	}
	s := rule.Empty()
	for _, l := range labels {
		seen := map[int]bool{}
		for _, x := range l.Intents {
			there := slices.ContainsFunc(s.Cars, func(c api.Car) bool { return c.Player == x.Player })
			if seen[x.Player] || !there || x.Throttle < -100 || x.Throttle > 100 || x.Turn < -8 || x.Turn > 8 {
				t.Fatalf("%+v in %+v", x, l)
			}
			seen[x.Player] = true
		}
		if s, e = rule.Step(walls, s, l); e != api.OK {
			t.Fatal(e)
		}
	}
}

// P23.3, P0.2, P0.3: what was accepted is canonical, sealed, fresh and in rate; each session began with a connect whose cookie is right; sessions and the queue stay within their bounds, no number comes twice.
func TestAccepted(t *testing.T) {
	d := dice(1380649)
	commands := 0
	for range rounds(60) {
		c := d.config()
		l, p := d.script(t, c, 400)
		s := begun(t, c)
		keys := map[uint64]string{}
		for _, e := range l {
			s.Do(e)
			lives := s.Lives()
			if len(lives) > c.Sessions || len(s.Waiting()) > c.Output {
				t.Fatalf("%d sessions, %d wait", len(lives), len(s.Waiting()))
			}
			for i, x := range lives {
				key, ok := s.Key(x.Session)
				if old, known := keys[x.Session]; !ok || known && old != key || i > 0 && x.Session <= lives[i-1].Session {
					t.Fatalf("session %d has another key, or stands at another place", x.Session)
				}
				keys[x.Session] = key
			}
		}
		commands += wantAccepted(t, c, p, s.Ledger(), keys)
	}
	if commands < 200 {
		t.Errorf("only %d commands", commands)
	}
}

// wantAccepted judges a ledger's entries one by one: how many are commands.
func wantAccepted(t *testing.T, c api.Config, p *plain, ledger []api.Entry, keys map[uint64]string) int {
	t.Helper()
	windows := map[uint64]*plainSession{}
	ticks := map[uint64][]uint64{}
	began := uint64(0)
	commands := 0
	for i, x := range ledger {
		d, e := frame.Decode(x.Data)
		if again, _ := frame.Encode(d); x.Data != "" && (e != api.OK || again != x.Data) {
			t.Fatalf("%d: %+v is not canonical", i, x)
		}
		switch x.Kind {
		case api.LbJoin:
			now := x.Tick/uint64(c.Life) + 1
			if d.Kind != api.KdConnect || d.Epoch == 0 || d.Epoch != now && d.Epoch != now-1 || d.Cookie != p.cookie(d.Epoch, x.From, d.Nonce) || x.Session != began+1 {
				t.Fatalf("%d: %+v in epoch %d", i, x, now)
			}
			began = x.Session
			windows[x.Session] = &plainSession{marked: map[uint64]bool{}}
		case api.LbCommand:
			w := windows[x.Session]
			if d.Kind != api.KdCommand || !frame.Sealed(x.Data, keys[x.Session]) || d.Session != x.Session || d.Seq != x.Seq || w.fresh(x.Seq) != api.OK {
				t.Fatalf("%d: %+v", i, x)
			}
			w.marked[x.Seq] = true
			w.live.High = max(w.live.High, x.Seq)
			ticks[x.Session] = append(ticks[x.Session], x.Tick)
			commands++
		case api.LbLeave:
			if x.Data != "" && (d.Kind != api.KdBye || !frame.Sealed(x.Data, keys[x.Session]) || windows[x.Session].fresh(x.Seq) != api.OK) {
				t.Fatalf("%d: %+v", i, x)
			}
		}
	}
	for session, l := range ticks {
		for i := range l {
			for k := i; k < len(l); k++ {
				if most := c.Burst + c.Rate*int(l[k]-l[i])/16; k-i+1 > most {
					t.Fatalf("session %d has %d commands within %d ticks", session, k-i+1, l[k]-l[i])
				}
			}
		}
	}
	return commands
}

// P23.4, P0.3: a hello changes counts, and the queue by at most one datagram of 60 bytes, to its source; whatever is done behind it is done as without it.
func TestHelloUnseen(t *testing.T) {
	d := dice(299792458)
	for range rounds(60) {
		c := d.config()
		l, _ := d.script(t, c, 200)
		with, without := begun(t, c), begun(t, c)
		hellos, dropped := 0, 0
		for i, e := range l {
			with.Do(e)
			without.Do(e)
			if i%4 == 0 {
				from := pick(&d, manySources()...)
				wantHello(t, with, c, from, d.bytes(16))
				hellos++
				dropped += btoi(len(without.Waiting()) == c.Output)
				// The cookie is taken out again, with all that waits, so that both queues are alike.
				with.Do(api.Event{Kind: api.EvTake, N: 1000})
				without.Do(api.Event{Kind: api.EvTake, N: 1000})
			}
			want := tell(without)
			want.counts.Hellos += hellos
			want.counts.Dropped += dropped
			wantTold(t, fmt.Sprintf("behind %+v", e), with, want)
		}
	}
}

func btoi(b bool) int {
	if b {
		return 1
	}
	return 0
}

// wantHello says hello, and asks for all that it does.
func wantHello(t *testing.T, s servers, c api.Config, from, nonce string) {
	t.Helper()
	want := tell(s)
	out, e := s.Do(api.Event{Kind: api.EvData, From: from, Data: hello(nonce)})
	if e != api.OK || len(out) != 0 {
		t.Fatalf("a hello: %q, %v", out, e)
	}
	want.counts.Hellos++
	if len(want.waiting) == c.Output {
		want.counts.Dropped++
	} else {
		now := s.Waiting()
		last := now[len(now)-1]
		if d, e := frame.Decode(last.Data); last.To != from || len(last.Data) != 60 || e != api.OK || d.Kind != api.KdCookie || d.Nonce != nonce || d.Epoch != s.Epoch() {
			t.Fatalf("a hello is answered by %q to %q", last.Data, last.To)
		}
		want.waiting = append(want.waiting, last)
	}
	wantTold(t, "behind a hello", s, want)
}

// P23.7: two servers of one configuration and one script tell the same, also where the one plays all of it ahead of the other's beginning; a script cut in two is the script; Run is Do of each event.
func TestAlone(t *testing.T) {
	d := dice(8314462618)
	for range rounds(40) {
		c := d.config()
		l, _ := d.script(t, c, 200)
		other, _ := d.script(t, d.config(), 100)
		one, two, cut := begun(t, c), begun(t, c), begun(t, c)
		var taken []api.Out
		for _, e := range l {
			out, _ := one.Do(e)
			taken = append(taken, out...)
		}
		for i, e := range l {
			if i < len(other) {
				begun(t, c).Do(other[i])
			}
			two.Do(e)
		}
		wantTold(t, "another server of the script", two, tell(one))
		at := d.below(len(l))
		for _, part := range [][]api.Event{l[:at], l[at:]} {
			for _, e := range part {
				cut.Do(e)
			}
			cut.State()
			cut.Ledger()
		}
		wantTold(t, "a script cut in two", cut, tell(one))
		if got, e := server.Run(c, l); e != api.OK || !slices.Equal(got, taken) {
			t.Fatalf("Run: %q, %v, want %q", got, e, taken)
		}
	}
}

// Run lets errors of Do go, and tells what was taken, in order; of no events nothing.
func TestRun(t *testing.T) {
	take := func(n int) api.Event { return api.Event{Kind: api.EvTake, N: n} }
	say := func(from string) api.Event { return api.Event{Kind: api.EvData, From: from, Data: hello(nonce)} }
	out, e := server.Run(config(), []api.Event{say("x"), {Kind: 9}, {Kind: api.EvData}, say("y"), take(1), say("z"), take(-1), take(5), say("w")})
	if e != api.OK || len(out) != 3 || out[0].To != "x" || out[1].To != "y" || out[2].To != "z" {
		t.Errorf("%q, %v", out, e)
	}
	if out, e := server.Run(config(), nil); len(out) != 0 || e != api.OK {
		t.Errorf("%q, %v", out, e)
	}
}

// P0.8: two sources' datagrams that stand next to one another may be exchanged, where neither is a connect and the queue has room: arena, sessions and each source's replies are the same.
func TestExchanged(t *testing.T) {
	d := dice(9109383701)
	exchanged := 0
	for range rounds(60) {
		c := d.config()
		c.Output = 256
		l, _ := d.script(t, c, 150)
		// All is taken behind each event, so that the queue has room in both orders.
		var roomy []api.Event
		for _, e := range l {
			if e.Kind != api.EvTake {
				roomy = append(roomy, e, api.Event{Kind: api.EvTake, N: 1000})
			}
		}
		left := 20
		for i := 0; i+2 < len(roomy) && left > 0; i += 2 {
			if !mayExchange(roomy[i], roomy[i+2]) {
				continue
			}
			other := slices.Clone(roomy)
			other[i], other[i+2] = roomy[i+2], roomy[i]
			wantExchanged(t, c, roomy, other)
			exchanged++
			left--
		}
	}
	if exchanged < 10 {
		t.Errorf("only %d were exchanged", exchanged)
	}
}

func mayExchange(a, b api.Event) bool {
	isConnect := func(e api.Event) bool { return len(e.Data) > 3 && e.Data[3] == 3 }
	return a.Kind == api.EvData && b.Kind == api.EvData && a.From != b.From && !isConnect(a) && !isConnect(b)
}

func wantExchanged(t *testing.T, c api.Config, l, other []api.Event) {
	t.Helper()
	one, two := begun(t, c), begun(t, c)
	replies, otherReplies := map[string][]string{}, map[string][]string{}
	for i := range l {
		out, _ := one.Do(l[i])
		for _, x := range out {
			replies[x.To] = append(replies[x.To], x.Data)
		}
		out, _ = two.Do(other[i])
		for _, x := range out {
			otherReplies[x.To] = append(otherReplies[x.To], x.Data)
		}
	}
	want := tell(one)
	want.ledger = two.Ledger() // its entries stand in the other order
	wantTold(t, "exchanged", two, want)
	for to, x := range replies {
		if !slices.Equal(x, otherReplies[to]) || len(replies) != len(otherReplies) {
			t.Fatalf("%q gets %q, want %q", to, otherReplies[to], x)
		}
	}
}
