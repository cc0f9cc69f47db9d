package server_test

import (
	"fmt"
	"slices"
	"testing"

	"joust/api"
	"joust/frame"
	"joust/snap"
)

// fault is a place in R6's order of what may be wrong with a datagram.
type fault int

// faults is a set of them.
type faults uint

func (l faults) has(f fault) bool { return l>>f&1 == 1 }

// first is the error of the first fault of a set, as the rows of R6 order them.
func (l faults) first(order []api.Errno) api.Errno {
	for i, e := range order {
		if l.has(fault(i)) {
			return e
		}
	}
	return api.OK
}

// wantRefused asks that a datagram is refused, and that nothing is told otherwise behind it, but that one more was refused.
func (w world) wantRefused(from, data string, want api.Errno) {
	w.t.Helper()
	before := tell(w)
	w.say(from, data, want)
	before.counts.Refused++
	wantTold(w.t, "behind "+want.Error(), w, before)
}

const (
	wrongEpoch fault = iota
	wrongCookie
	noSourceToken
	noAccount
	wrongSecret
	isTaken
	isFull
)

var connectErrors = []api.Errno{api.ErrEpoch, api.ErrCookie, api.ErrRate, api.ErrAccount, api.ErrTag, api.ErrTaken, api.ErrFull}

// refusedConnect makes a server on which a connect from "x" has just these faults.
func refusedConnect(t *testing.T, l faults) (world, string) {
	c := config()
	c.Output, c.Idle, c.SourceBurst, c.SourceRate, c.Accounts = 256, 1000, 3, 0, slices.Clone(accounts[:3])
	if l.has(isFull) {
		c.Sessions = 1
	}
	w := begin(t, c)
	switch {
	case l.has(isTaken):
		w.join("z", accounts[0])
	case l.has(isFull):
		w.join("z", accounts[1])
	}
	d := w.cookie("x")
	if l.has(noSourceToken) {
		for range 3 {
			w.say("x", connect(d, "dan", ""), api.ErrAccount)
		}
	}
	if l.has(wrongEpoch) {
		w.ticks(10)
	}
	if l.has(wrongCookie) {
		d.Cookie = d.Cookie[:31] + string([]byte{d.Cookie[31] ^ 1})
	}
	name, secret := "ann", accounts[0].Secret
	if l.has(noAccount) {
		name = "dan"
	}
	if l.has(wrongSecret) {
		secret = accounts[1].Secret
	}
	return w, connect(d, name, secret)
}

// tokens counts a source's tokens, and takes them all.
func (w world) tokens(from string) int {
	w.t.Helper()
	data := connect(w.cookie(from), "dan", "")
	for n := 0; ; n++ {
		_, e := w.Do(api.Event{Kind: api.EvData, From: from, Data: data})
		if e == api.ErrRate {
			return n
		}
		if e != api.ErrAccount || n > 1000 {
			w.t.Fatalf("an unknown account: %v", e)
		}
	}
}

// R6, P23.5: a connect with any of its faults is refused by the first of them, and changes nothing but the count and a token: one is taken by those behind ErrRate, and by one that is accepted.
func TestRefusedConnect(t *testing.T) {
	for l := range faults(1 << len(connectErrors)) {
		w, data := refusedConnect(t, l)
		want := l.first(connectErrors)
		left := 3
		switch {
		case l.has(noSourceToken):
			left = 0
		case !l.has(wrongEpoch) && !l.has(wrongCookie):
			left = 2
		}
		if want == api.OK {
			w.say("x", data, want)
		} else {
			w.wantRefused("x", data, want)
		}
		if got := w.tokens("x"); got != left {
			t.Errorf("faults %b, %v: %d tokens are left, want %d", l, want, got, left)
		}
		if got := w.tokens("y"); got != 3 {
			t.Errorf("faults %b, %v: another source has %d tokens", l, want, got)
		}
	}
}

const (
	noSession fault = iota
	otherSource
	wrongTag
	notFresh
	waitsAlready
	noToken
)

// freshness is a seq that is not fresh at High 66, with 2 and 66 marked, and its error.
type freshness struct {
	seq uint64
	e   api.Errno
}

var notFreshOnes = []freshness{{0, api.ErrOld}, {1, api.ErrOld}, {2, api.ErrOld}, {66, api.ErrSeen}, {131, api.ErrFar}, {1 << 63, api.ErrFar}, {1<<64 - 1, api.ErrFar}}

// refusedSession makes a server on which a command or a bye from "x" with a seq has just these faults: session 1's High is 66, of which 2 and 66 were marked.
func refusedSession(t *testing.T, l faults, seq uint64, form func(session, seq uint64, key string) string) (world, string, string) {
	c := config()
	c.Output, c.Rate, c.Burst = 256, 0, 3
	if l.has(noToken) {
		c.Burst = 2
	}
	w := begin(t, c)
	_, key := w.join("x", accounts[0])
	w.join("y", accounts[1])
	w.say("x", command(1, 2, key), api.OK)
	w.tick()
	w.say("x", command(1, 66, key), api.OK)
	if !l.has(waitsAlready) {
		w.tick()
	}
	from, session := "x", uint64(1)
	if l.has(noSession) {
		session = 3
	}
	if l.has(otherSource) {
		from = "y"
	}
	data := form(session, seq, key)
	if l.has(wrongTag) {
		data = data[:len(data)-1] + string([]byte{data[len(data)-1] ^ 0x80})
	}
	return w, from, data
}

// R6, R7: a command with any of its faults is refused by the first of them, and changes nothing but the count.
func TestRefusedCommand(t *testing.T) {
	for l := range faults(1 << 6) {
		for _, x := range append(slices.Clone(notFreshOnes), freshness{3, api.OK}, freshness{65, api.OK}, freshness{67, api.OK}, freshness{130, api.OK}) {
			if l.has(notFresh) == (x.e == api.OK) {
				continue
			}
			w, from, data := refusedSession(t, l, x.seq, command)
			want := l.first([]api.Errno{api.ErrSession, api.ErrSource, api.ErrTag, x.e, api.ErrExcess, api.ErrRate})
			if want == api.OK {
				w.wantCommand(from, data, x.seq)
				continue
			}
			w.wantRefused(from, data, want)
			w.wantAsBefore(l)
		}
	}
}

// wantCommand asks that a command of session 1 is accepted, and for all that it does.
func (w world) wantCommand(from, data string, seq uint64) {
	w.t.Helper()
	want := tell(w)
	w.say(from, data, api.OK)
	want.counts.Accepted++
	want.lives[0].High = max(want.lives[0].High, seq)
	want.lives[0].Heard = want.state.Tick
	want.ledger = append(want.ledger, api.Entry{Kind: api.LbCommand, Tick: want.state.Tick, Session: 1, Player: 0, Name: "ann", From: "x", Seq: seq, Data: data})
	wantTold(w.t, "behind a command", w, want)
	w.wantRefused(from, data, api.ErrSeen)
	key := want.keys[0]
	w.wantRefused(from, command(1, want.lives[0].High+1, key), api.ErrExcess)
	w.tick()
	w.wantRefused(from, command(1, want.lives[0].High+1, key), api.ErrRate)
}

// wantAsBefore asks that a refused datagram has taken no token and no seq of session 1, and let no intent wait: the seqs 3 to 65 and those from 67 on are fresh still, and as many commands are accepted as there were tokens.
func (w world) wantAsBefore(l faults) {
	w.t.Helper()
	key, _ := w.Key(1)
	if l.has(waitsAlready) {
		w.wantRefused("x", command(1, 67, key), api.ErrExcess)
		w.tick()
	}
	if l.has(noToken) {
		w.wantRefused("x", command(1, 130, key), api.ErrRate)
		return
	}
	w.say("x", command(1, 67, key), api.OK)
	w.tick()
	w.wantRefused("x", command(1, 68, key), api.ErrRate)
}

// R6, R7: a bye likewise; neither a waiting intent nor a missing token refuses it.
func TestRefusedBye(t *testing.T) {
	for l := range faults(1 << 6) {
		for _, x := range append(slices.Clone(notFreshOnes), freshness{3, api.OK}, freshness{65, api.OK}, freshness{67, api.OK}, freshness{130, api.OK}) {
			if l.has(notFresh) == (x.e == api.OK) {
				continue
			}
			w, from, data := refusedSession(t, l, x.seq, bye)
			want := l.first([]api.Errno{api.ErrSession, api.ErrSource, api.ErrTag, x.e})
			if want == api.OK {
				w.wantBye(from, data, x.seq)
				continue
			}
			w.wantRefused(from, data, want)
			w.wantAsBefore(l)
		}
	}
}

// wantBye asks that a bye of session 1 is accepted, and for all that it does.
func (w world) wantBye(from, data string, seq uint64) {
	w.t.Helper()
	want := tell(w)
	w.say(from, data, api.OK)
	want.counts.Accepted++
	want.lives, want.keys = want.lives[1:], want.keys[1:]
	want.state.Cars = want.state.Cars[1:]
	want.ledger = append(want.ledger, api.Entry{Kind: api.LbLeave, Tick: want.state.Tick, Session: 1, Player: 0, Name: "ann", From: "x", Seq: seq, Data: data})
	wantTold(w.t, "behind a bye", w, want)
	w.wantRefused(from, data, api.ErrSession)
	if _, ok := w.Key(1); ok {
		w.t.Error("a session that is over has a key")
	}
}

// R6's first row: bytes that are no datagram, in frame's order.
func TestRefusedForm(t *testing.T) {
	w := begin(t, wide())
	_, key := w.join("x", accounts[0])
	for _, x := range []struct {
		data string
		want api.Errno
	}{
		{"", api.ErrMagic},
		{"J", api.ErrMagic},
		{"J0", api.ErrMagic},
		{"j01\x01" + rep("\x00", 92), api.ErrMagic},
		{"J01", api.ErrKind},
		{"J01\x00" + rep("\x00", 92), api.ErrKind},
		{"J01\x08" + rep("\x00", 92), api.ErrKind},
		{"J011" + rep("\x00", 92), api.ErrKind},
		{"J01\x01", api.ErrLength},
		{hello(nonce)[:95], api.ErrLength},
		{hello(nonce) + "\x00", api.ErrLength},
		{hello(nonce)[:95] + "\x01", api.ErrField},
		{hello(nonce)[:95] + "\x01\x00", api.ErrLength},
		{hello(nonce)[:20] + "\x01" + hello(nonce)[21:], api.ErrField},
		{"J01\x01" + rep("\x00", 1197), api.ErrLength},
		{rep("J", 1201), api.ErrLength},
		{rep("J", 1200), api.ErrMagic},
		{"J01\x09" + rep("\x00", 1197), api.ErrLength},
		{command(1, 1, key) + "\x00", api.ErrLength},
		{command(1, 1, key)[:54], api.ErrLength},
		{driven(1, 1, "\x00\x00\x04", key), api.ErrField},
		{driven(1, 1, "\x00\x00\xff", key), api.ErrField},
		{bye(1, 1, key)[:51], api.ErrLength},
		{bye(1, 1, key) + "\x00", api.ErrLength},
		{"J01\x03" + rep("\x00", 88), api.ErrLength},
		{"J01\x03" + rep("\x00", 90), api.ErrLength},
	} {
		w.wantRefused("x", x.data, x.want)
	}
}

// R6's first row: kinds that the server sends, but bye, are ErrKind, also those that it has sent, those that are sealed, and any that have the form; those without it are refused by their form.
func TestRefusedKinds(t *testing.T) {
	w := begin(t, wide())
	w.say("x", hello(nonce), api.OK)
	d, _ := frame.Decode(w.Waiting()[0].Data)
	w.say("x", connect(d, "ann", accounts[0].Secret), api.OK)
	w.tick()
	w.wantSent(sent(api.KdCookie, 0, 0), sent(api.KdWelcome, 1, 0), sent(api.KdSnapshot, 1, 1))
	for _, x := range w.Waiting() {
		w.wantRefused("x", x.Data, api.ErrKind)
		w.wantRefused("y", x.Data, api.ErrKind)
	}
	key, _ := w.Key(1)
	own, _ := snap.Make(1, 2, api.View{}, key)
	w.wantRefused("x", own, api.ErrKind)
	w.wantRefused("x", "J01\x06"+rep("?", 1196), api.ErrKind)
	w.wantRefused("x", "J01\x06"+rep("?", 47), api.ErrLength)
	w.wantRefused("x", "J01\x06"+rep("?", 1197), api.ErrLength)
	w.wantRefused("x", "J01\x02"+rep("?", 56), api.ErrKind)
	w.wantRefused("x", "J01\x02"+rep("?", 57), api.ErrLength)
	w.wantRefused("x", "J01\x04"+rep("?", 73), api.ErrKind)
	w.wantRefused("x", "J01\x04"+rep("?", 72), api.ErrLength)
}

// The server's own bye, echoed by whom it was sent to, is of a session that is over.
func TestRefusedByeEchoed(t *testing.T) {
	w := begin(t, config())
	w.join("x", accounts[0])
	for range 11 {
		w.take(100)
		w.tick()
	}
	out := w.take(100)
	if len(out) != 1 {
		t.Fatalf("%q", out)
	}
	w.wantRefused("x", out[0].Data, api.ErrSession)
}

// P23.5: among the rest of a script refused datagrams are not seen, but in the count: whatever a server does behind them, it does without them.
func TestRefusedUnseen(t *testing.T) {
	d := dice(141421356237)
	unseen := 0
	for range rounds(60) {
		c := d.config()
		k := d.cast(t, c)
		s := begun(t, c)
		refused := 0
		for range 300 {
			e := k.event()
			out, err := k.p.Do(e)
			if e.Kind == api.EvData && err != api.OK && !usesSource(e.Data, err) {
				refused++
				continue
			}
			if got, gotErr := s.Do(e); gotErr != err || !slices.Equal(got, out) {
				t.Fatalf("%+v: %q, %v, want %q, %v", e, got, gotErr, out, err)
			}
			want := tell(k.p)
			want.counts.Refused -= refused
			wantTold(t, fmt.Sprintf("behind %+v", e), s, want)
		}
		unseen += refused
	}
	if unseen < 100 {
		t.Errorf("only %d were refused", unseen)
	}
}

// usesSource tells whether a refused datagram is a connect whose cookie was right, by the error that refused it.
func usesSource(data string, e api.Errno) bool {
	return len(data) > 3 && data[3] == 3 && slices.Contains([]api.Errno{api.ErrRate, api.ErrAccount, api.ErrTag, api.ErrTaken, api.ErrFull}, e)
}
