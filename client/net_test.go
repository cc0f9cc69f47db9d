package client_test

import (
	"fmt"
	"slices"
	"testing"

	"joust/api"
	"joust/book"
	"joust/client"
	"joust/frame"
	"joust/server"
	"joust/view"
)

const board = "##########\n#S.......#\n#..##..E.#\n#..##..A.#\n#S......S#\n#EEAA....#\n#....#...#\n#S...#..S#\n##########\n"

// packet is on its way, for so many rounds.
type packet struct {
	to, data string
	rounds   int
}

// net carries packets: of a hundred it drops so many, doubles so many, and delays each by at most so many rounds.
type net struct {
	*dice
	drop, double, delay int
	way                 []packet
}

func (n *net) send(to, data string) {
	copies := 1
	if n.below(100) < n.double {
		copies += n.within(1, 2)
	}
	for range copies {
		if n.below(100) >= n.drop {
			n.way = append(n.way, packet{to, data, n.below(n.delay + 1)})
		}
	}
}

// arrive gives what arrives in this round; where packets are delayed, in any order.
func (n *net) arrive() []packet {
	var here, later []packet
	for _, p := range n.way {
		if p.rounds == 0 {
			here = append(here, p)
		} else {
			p.rounds--
			later = append(later, p)
		}
	}
	n.way = later
	if n.delay > 0 {
		for i := range here {
			k := n.below(i + 1)
			here[i], here[k] = here[k], here[i]
		}
	}
	return here
}

// person is whoever plays by a client.
type person struct {
	*client.Client
	api.Account
	from    string
	said    []string // all that it has sent
	tick    uint64   // of the last view
	waited  int      // rounds without a new one
	session uint64   // of the last snapshot that was believed
	command api.Command
}

// place is which session saw what, at which tick.
type place struct{ session, tick uint64 }

// arena is a server, its players, and the nets between, one for each way.
type arena struct {
	*server.Server
	*dice
	t        *testing.T
	c        api.Config
	persons  []*person
	there    net
	back     net
	seen     map[place]api.View
	met      map[string]int // how often which kind of datagram was heard, and what became of it
	noises   bool
	restless bool
	tapes    []string // all that was on the wire
}

func newArena(t *testing.T, d *dice, met map[string]int, drop, double, delay int) *arena {
	t.Helper()
	players := d.within(1, len(accounts))
	c := api.Config{
		Sessions: players, Output: 256, Rate: 32, Burst: 20, SourceRate: 160, SourceBurst: 1000, Idle: d.within(4, 8), Life: pick(d, 3, 5, 9),
		Radius: pick(d, 5, 20, 60), Show: pick(d, 1, 4, 32), Seed: d.bytes(32), Board: board, Accounts: accounts,
	}
	s, e := server.New(c)
	if e != api.OK {
		t.Fatal(e)
	}
	a := &arena{Server: s, dice: d, t: t, c: c, seen: map[place]api.View{}, met: met, there: net{dice: d, drop: drop, double: double, delay: delay}, back: net{dice: d, drop: drop, double: double, delay: delay}}
	for i := range players {
		p := &person{Client: begun(t, accounts[i], d.bytes(16)), Account: accounts[i], from: fmt.Sprint("home ", i)}
		a.persons = append(a.persons, p)
	}
	return a
}

// say sends what a client says, if it says something.
func (a *arena) say(p *person, data string, e api.Errno) {
	if e == api.OK && data != "" {
		p.said = append(p.said, data)
		a.there.send(p.from, data)
	}
}

// act is what a person does in a round: says hello while there is no session, drives in it, and leaves it when nothing is seen any more, or for no reason.
func (a *arena) act(p *person) {
	_, _, playing := p.Playing()
	p.waited++
	switch {
	case playing && (p.waited > 6 || a.restless && a.one(15)):
		p.waited = 0
		data, e := p.Bye()
		a.say(p, data, e)
	case playing:
		p.command = api.Command{Throttle: a.within(-100, 100), Turn: a.within(-8, 8), Fire: a.one(2), Boost: a.one(3)}
		data, e := p.Command(p.command)
		a.say(p, data, e)
	case p.waited%3 == 1:
		data, e := p.Hello()
		a.say(p, data, e)
	}
}

// hear lets a client hear a packet, and asks what it makes of it.
func (a *arena) hear(p *person, data string) {
	a.t.Helper()
	answer, e := p.Hear(data)
	a.say(p, answer, e)
	d, _ := frame.Decode(data)
	a.met[fmt.Sprint(d.Kind, e)]++
	if e == api.OK && d.Kind == api.KdWelcome {
		p.waited, p.tick = 0, 0
	}
	v, has := p.View()
	if e == api.OK && d.Kind == api.KdSnapshot {
		if d.Session == p.session && v.Tick <= p.tick {
			a.t.Fatalf("%s sees tick %d behind tick %d", p.Name, v.Tick, p.tick)
		}
		p.waited, p.tick, p.session = 0, v.Tick, d.Session
	}
	if has {
		if want, was := a.seen[place{p.session, v.Tick}]; !was || !view.Equal(v, want) {
			a.t.Fatalf("%s sees %+v, want %+v", p.Name, v, want)
		}
	}
	a.wantJoined(p)
}

// wantJoined asks that the session that a client has is one that the server has made for it.
func (a *arena) wantJoined(p *person) {
	a.t.Helper()
	session, player, playing := p.Playing()
	if !playing {
		return
	}
	for _, x := range a.Ledger() {
		if x.Kind == api.LbJoin && x.Session == session {
			if x.Player != player || x.Name != p.Name || x.From != p.from {
				a.t.Fatalf("%s plays %d, %d: %+v", p.Name, session, player, x)
			}
			return
		}
	}
	a.t.Fatalf("%s plays session %d, which never began", p.Name, session)
}

// round lets all play for a tick.
func (a *arena) round() {
	a.t.Helper()
	for _, p := range a.persons {
		a.act(p)
	}
	a.tick()
}

// tick lets the packets arrive, and a tick come between.
func (a *arena) tick() {
	a.t.Helper()
	a.reach()
	a.Do(api.Event{Kind: api.EvTick})
	state := a.State()
	for _, l := range a.Lives() {
		v, e := view.Of(state, l.Player, a.c.Radius, a.c.Show)
		if e != api.OK {
			a.t.Fatal(e)
		}
		a.seen[place{l.Session, state.Tick}] = v
	}
	a.reply()
}

// reach lets the packets arrive at the server, and noise between them.
func (a *arena) reach() {
	for _, x := range a.there.arrive() {
		a.tapes = append(a.tapes, x.data)
		a.noise()
		a.Do(api.Event{Kind: api.EvData, From: x.to, Data: x.data})
	}
	a.noise()
}

// reply lets the server's packets arrive at the clients, and strangers' ones between them.
func (a *arena) reply() {
	a.t.Helper()
	out, _ := a.Do(api.Event{Kind: api.EvTake, N: 1000})
	for _, x := range out {
		a.tapes = append(a.tapes, x.Data)
		a.back.send(x.To, x.Data)
	}
	for _, x := range a.back.arrive() {
		for _, p := range a.persons {
			if p.from == x.to {
				a.forge(p)
				a.hear(p, x.data)
			}
		}
	}
}

// noise is what other sources send: any bytes, and what they have heard on the wire, turned or not.
func (a *arena) noise() {
	for range a.below(3) {
		if data := a.tapped(); a.noises {
			a.Do(api.Event{Kind: api.EvData, From: pick(a.dice, "", "elsewhere", "home", "home 00"), Data: data})
		}
	}
}

// forge lets a client hear what strangers send: nothing that they can make is believed.
func (a *arena) forge(p *person) {
	a.t.Helper()
	if !a.noises || !a.one(2) {
		return
	}
	data := a.turned(a.tapped())
	session, _, playing := p.Playing()
	if a.one(3) {
		data = pick(a.dice, snapshot(session, 1<<40, written(a.view()), a.bytes(32)), bye(session, 1<<40, a.bytes(32)), welcome(p.said[0][4:20], 1<<40, 0, salt, a.bytes(32)))
	}
	s, e := p.Hear(data)
	if after, _, still := p.Playing(); e == api.OK && s == "" || after != session || still != playing {
		a.t.Fatalf("%s believes a stranger: %q", p.Name, data)
	}
}

func (a *arena) tapped() string {
	if len(a.tapes) == 0 || a.one(4) {
		return a.junk()
	}
	return pick(a.dice, a.tapes...)
}

// wantHonest asks that all that was accepted copies what its own client has sent, each datagram once.
func (a *arena) wantHonest() {
	a.t.Helper()
	left := map[string]int{}
	for _, p := range a.persons {
		for _, data := range p.said {
			left[p.from+"\x00"+data]++
		}
	}
	joins := map[string]int{} // a connect is accepted again behind its session's end, while its cookie lives
	for _, x := range a.Ledger() {
		at := x.From + "\x00" + x.Data
		switch {
		case x.Kind == api.LbTick || x.Kind == api.LbLeave && x.Data == "":
		case left[at] == 0:
			a.t.Fatalf("%+v was never sent, or was accepted twice", x)
		case x.Kind == api.LbJoin:
			joins[at]++
		default:
			left[at]--
		}
	}
	if len(joins) == 0 {
		a.t.Fatal("nobody has joined")
	}
}

// wantAllPlay asks that every client has a session that lives, and sees what is to be seen.
func (a *arena) wantAllPlay() {
	a.t.Helper()
	for _, p := range a.persons {
		session, player, playing := p.Playing()
		if !playing || !slices.ContainsFunc(a.Lives(), func(l api.Live) bool {
			return l.Session == session && l.Player == player && l.From == p.from && l.Name == p.Name
		}) {
			a.t.Fatalf("%s plays %d, %v; %+v live", p.Name, session, playing, a.Lives())
		}
		want, e := view.Of(a.State(), player, a.c.Radius, a.c.Show)
		if v, has := p.View(); e != api.OK || !has || !view.Equal(v, want) {
			a.t.Fatalf("%s sees %+v, want %+v", p.Name, v, want)
		}
	}
}

// wantIntents asks that each client's last command is an intent of the last tick's label (P0.5).
func (a *arena) wantIntents() {
	a.t.Helper()
	labels, e := book.Labels(a.Ledger())
	if e != api.OK || len(labels) == 0 {
		a.t.Fatalf("%d labels, %v", len(labels), e)
	}
	last := labels[len(labels)-1]
	for _, p := range a.persons {
		_, player, _ := p.Playing()
		want := api.Intent{Player: player, Throttle: p.command.Throttle, Turn: p.command.Turn, Fire: p.command.Fire, Boost: p.command.Boost}
		if last.Kind != api.LbTick || !slices.Contains(last.Intents, want) {
			a.t.Fatalf("%+v, want %+v of %s", last, want, p.Name)
		}
	}
}

// calm lets nobody leave any more, and the nets lose, double and delay nothing.
func (a *arena) calm() {
	a.restless = false
	a.there.drop, a.there.double, a.there.delay = 0, 0, 0
	a.back.drop, a.back.double, a.back.delay = 0, 0, 0
}

// P0.4, P0.5: clients at a server over a net that drops, doubles and delays: what they see, and the session that they have, are right at all times; when the net is calm again, all play, and all see what is to be seen.
func TestWildNet(t *testing.T) {
	d := dice(24004)
	met := map[string]int{}
	for range rounds(25) {
		a := newArena(t, &d, met, d.below(40), d.below(60), d.below(5))
		a.noises, a.restless = d.one(2), true
		for range 60 {
			a.round()
		}
		a.wantHonest()
		a.calm()
		for range 4*(a.c.Idle+8) + 10 {
			a.round()
		}
		for range 10 {
			a.round()
			a.wantAllPlay()
			a.wantIntents()
		}
		a.wantHonest()
	}
	for _, x := range []struct {
		kind int
		e    api.Errno
		many int
	}{{2, 0, 100}, {2, 240, 20}, {4, 0, 100}, {4, 240, 10}, {4, 241, 1}, {6, 0, 1000}, {6, 240, 10}, {6, 241, 100}, {7, 0, 3}, {7, 240, 3}} {
		if n := met[fmt.Sprint(x.kind, x.e)]; n < x.many && !testing.Short() {
			t.Errorf("kind %d, %v: only %d times: the net is too dull", x.kind, x.e, n)
		}
	}
	if met[fmt.Sprint(6, api.ErrTag)]+met[fmt.Sprint(4, api.ErrTag)] > 0 {
		t.Error("what the server has sealed was not opened")
	}
}

// P0.5, P0.4: where a client's own datagrams arrive, it plays: from its hello on each command is an intent of the next tick's label, whatever others send between, though the net doubles its datagrams and loses, doubles and delays the server's snapshots; the last view that it believed is right.
func TestHonestClients(t *testing.T) {
	d := dice(50005)
	for range rounds(25) {
		a := newArena(t, &d, map[string]int{}, 0, 0, 0)
		a.noises = true
		a.there.double = d.below(50)
		a.join()
		a.back.drop, a.back.double, a.back.delay = d.below(60), d.below(60), d.below(3)
		for range 40 {
			for _, p := range a.persons {
				p.waited = 0 // a person who is patient, however many snapshots are lost
			}
			a.round()
			a.wantIntents()
		}
		a.back.drop, a.back.double, a.back.delay = 0, 0, 0
		for range 3 {
			a.round()
			a.wantIntents()
		}
		a.wantAllPlay()
		a.wantHonest()
		a.part()
	}
}

// join lets all say hello, echo their cookies, and hear their welcomes, without a tick between.
func (a *arena) join() {
	a.t.Helper()
	for _, p := range a.persons {
		data, e := p.Hello()
		a.say(p, data, e)
	}
	for range 2 {
		a.reach()
		a.reply()
	}
	for _, p := range a.persons {
		if _, _, playing := p.Playing(); !playing {
			a.t.Fatalf("%s has no session", p.Name)
		}
	}
}

// part lets all leave: by a bye, or by idleness, which a bye of the server's tells.
func (a *arena) part() {
	a.t.Helper()
	for i, p := range a.persons {
		if i%2 == 0 {
			data, e := p.Bye()
			a.say(p, data, e)
		}
	}
	for range a.c.Idle + 1 {
		a.tick()
	}
	for _, p := range a.persons {
		if session, _, playing := p.Playing(); playing {
			a.t.Errorf("%s plays session %d still", p.Name, session)
		}
	}
	if len(a.Lives()) != 0 {
		a.t.Errorf("%+v live", a.Lives())
	}
}
