package referee_test

import (
	"fmt"
	"maps"
	"slices"
	"testing"

	"joust/api"
	"joust/board"
	"joust/book"
	"joust/client"
	"joust/frame"
	"joust/referee"
	"joust/rule"
	"joust/server"
	"joust/vec"
)

// This file is 27.4 to 27.7 and P0.7: ledgers of servers, whatever scripts they play.

// person plays by a client.
type person struct {
	*client.Client
	from string
	away int // ticks for which it says nothing
}

// match is played on a server; the keys that its sessions had are kept, and what went over the wire.
type match struct {
	*server.Server
	*dice
	t       *testing.T
	c       api.Config
	persons []*person
	known   map[uint64]string
	wire    []string
	late    []api.Event // datagrams on their way
	errors  map[api.Errno]int
	steady  bool // nobody leaves
}

func newMatch(t *testing.T, d *dice) *match {
	t.Helper()
	c := api.Config{
		Sessions: d.within(1, 6), Output: pick(d, 2, 20, 256, 256), Rate: pick(d, 4, 16, 32), Burst: pick(d, 1, 3, 20), SourceRate: 160, SourceBurst: 1000, Idle: d.within(2, 8), Life: d.within(2, 9),
		Radius: 20, Show: 4, Seed: d.bytes(32), Board: pick(d, yard, pen),
	}
	for i := range 7 {
		c.Accounts = append(c.Accounts, api.Account{Name: fmt.Sprint("name", i), Secret: d.bytes(32)})
	}
	s, e := server.New(c)
	if e != api.OK {
		t.Fatal(e)
	}
	m := &match{Server: s, dice: d, t: t, c: c, known: map[uint64]string{}, errors: map[api.Errno]int{}}
	for i, a := range c.Accounts {
		p, e := client.New(a, d.bytes(16))
		if e != api.OK {
			t.Fatal(e)
		}
		m.persons = append(m.persons, &person{Client: p, from: fmt.Sprint("home ", i)})
	}
	return m
}

// do lets an event happen, and learns the keys.
func (m *match) do(e api.Event) []api.Out {
	out, err := m.Do(e)
	m.errors[err]++
	for _, x := range m.Lives() {
		m.known[x.Session], _ = m.Key(x.Session)
	}
	return out
}

// tells is what keys tells of the match.
func (m *match) tells(session uint64) (string, bool) {
	key, known := m.known[session]
	return key, known
}

// send lets a datagram come, now or later, or never, or twice.
func (m *match) send(from, data string) {
	m.wire = append(m.wire, data)
	e := api.Event{Kind: api.EvData, From: from, Data: data}
	switch m.below(12) {
	case 0:
		m.late = append(m.late, e)
		return
	case 1:
		return
	case 2:
		m.late = append(m.late, e)
	}
	m.do(e)
	m.reply()
}

func (m *match) reply() {
	for _, x := range m.do(api.Event{Kind: api.EvTake, N: pick(m.dice, 1000, 1000, 3, -1)}) {
		m.wire = append(m.wire, x.Data)
		for _, p := range m.persons {
			if p.from == x.To {
				if answer, e := p.Hear(x.Data); e == api.OK && answer != "" {
					m.send(p.from, answer)
				}
			}
		}
	}
}

// aimed is a command that turns to another car, and fires: so there are hits.
func (m *match) aimed(player int) api.Command {
	x := api.Command{Throttle: m.within(-128, 127), Turn: m.within(-128, 127), Fire: true, Boost: m.one(3)}
	cars := m.State().Cars
	i := slices.IndexFunc(cars, func(c api.Car) bool { return c.Player == player })
	if other := m.below(max(1, len(cars))); i >= 0 && other != i {
		way := (vec.Toward(cars[i].At, cars[other].At)-cars[i].Heading+384)%256 - 128
		x.Throttle, x.Turn = 0, max(-8, min(way, 8))
	}
	return x
}

// act is what a person does ahead of a tick.
func (m *match) act(p *person) {
	if p.away > 0 {
		p.away--
		return
	}
	_, player, playing := p.Playing()
	data, e := "", api.OK
	switch {
	case !m.steady && m.one(40):
		p.away = m.within(1, 12)
	case !m.steady && playing && m.one(60):
		data, e = p.Bye()
	case playing:
		data, e = p.Command(m.aimed(player))
	default:
		data, e = p.Hello()
	}
	if e == api.OK && data != "" {
		m.send(p.from, data)
	}
}

// cheat is any datagram from anywhere: what went over the wire, turned or not; what is sealed with the right key, with any numbers; any bytes.
func (m *match) cheat() {
	from := pick(m.dice, "x", "home 0", "home 1", "home 2")
	data := m.bytes(m.below(100))
	lives := m.Lives()
	switch m.below(7) {
	case 0, 1:
		if len(m.wire) > 0 {
			data = pick(m.dice, m.wire[max(0, len(m.wire)-50):]...)
		}
	case 2:
		if len(m.wire) > 0 {
			data = m.turned(pick(m.dice, m.wire...))
		}
	case 3, 4, 5:
		if len(lives) > 0 {
			x := pick(m.dice, lives...)
			from = pick(m.dice, x.From, x.From, x.From, from)
			d := api.Datagram{Kind: api.KdCommand, Session: x.Session, Seq: x.High + uint64(m.within(-66, 66)), Command: api.Command{Throttle: m.within(-128, 127), Turn: m.within(-128, 127)}}
			if m.one(30) {
				d.Kind = api.KdBye
			}
			data, _ = frame.Seal(d, pick(m.dice, m.known[x.Session], m.known[x.Session], m.known[1]))
		}
	case 6:
		m.do(api.Event{Kind: pick(m.dice, api.EvDraw, 9), Data: m.bytes(pick(m.dice, 31, 32))})
	}
	m.do(api.Event{Kind: api.EvData, From: from, Data: data})
	if m.one(3) && len(m.late) > 0 {
		i := m.below(len(m.late))
		m.do(m.late[i])
		m.late = slices.Delete(m.late, i, i+1)
	}
}

func (m *match) play(ticks, cheats int) *match {
	for range ticks {
		for _, p := range m.persons {
			m.act(p)
			for range m.below(cheats + 1) {
				m.cheat()
			}
		}
		m.do(api.Event{Kind: api.EvTick})
		m.reply()
	}
	return m
}

// wantNothing asks that nothing is found.
func (m *match) wantNothing(l []api.Entry) {
	m.t.Helper()
	if f, is := referee.Judge(m.c, m.tells, l); is || f != (api.Finding{}) {
		m.t.Fatalf("%d of %d entries: %+v, %v, of %+v", len(l), len(m.Ledger()), f, is, l[:min(len(l), f.Entry+1)])
	}
}

// 27.4, P0.7: nothing is found in the ledger of a server, nor in any beginning of it; 27.7: its labels are the Rulebook's.
func TestServersLedger(t *testing.T) {
	d := dice(1644934066)
	kinds, errors := map[string]int{}, map[api.Errno]int{}
	for i := range rounds(20) {
		m := newMatch(t, &d).play(60, i%3)
		l := m.Ledger()
		for n := range len(l) + 1 {
			m.wantNothing(l[:n])
		}
		m.wantLabels(l)
		for _, x := range l {
			kinds[fmt.Sprint(x.Kind, x.Data == "")]++
		}
		for e, n := range m.errors {
			errors[e] += n
		}
	}
	if testing.Short() {
		return
	}
	for _, k := range []string{"1 false", "2 false", "2 true", "3 true", "4 false"} {
		if kinds[k] < 50 {
			t.Errorf("%v", kinds)
		}
	}
	for _, e := range []api.Errno{api.ErrOld, api.ErrSeen, api.ErrFar, api.ErrTag, api.ErrTaken, api.ErrFull, api.ErrSession, api.ErrSource, api.ErrExcess, api.ErrRate} {
		if errors[e] < 10 {
			t.Errorf("%v", errors)
		}
	}
}

// wantLabels asks for labels, an arena of them, which is the server's own, and its scores.
func (m *match) wantLabels(l []api.Entry) {
	m.t.Helper()
	labels, e := book.Labels(l)
	if e != api.OK {
		m.t.Fatalf("%v of %+v", e, l)
	}
	walls, _ := board.Parse(m.c.Board)
	s, e := rule.Run(walls, labels)
	if e != api.OK || !rule.Equal(s, m.State()) {
		m.t.Fatalf("%+v, %v, want %+v", s, e, m.State())
	}
}

// 27.3: the hits of those who are there at a match's end.
func TestServersScore(t *testing.T) {
	d := dice(2078086921)
	hits := 0
	for range rounds(10) {
		m := newMatch(t, &d)
		m.steady = true
		m.play(400, 0)
		want := map[string]int{}
		for _, c := range m.State().Cars {
			want[c.Name] = c.Score
			hits += c.Score
		}
		got, e := referee.Score(m.c, m.Ledger())
		if e != api.OK || !maps.Equal(got, want) {
			t.Fatalf("%v, %v, want %v", got, e, want)
		}
	}
	if hits < 10 && !testing.Short() {
		t.Errorf("only %d hits", hits)
	}
}

// wantTurned asks that a turned byte is found in its entry.
func (m *match) wantTurned(l []api.Entry, i, at int, by byte) {
	m.t.Helper()
	b := []byte(l[i].Data)
	b[at] ^= by
	turned := slices.Clone(l)
	turned[i].Data = string(b)
	f, is := referee.Judge(m.c, m.tells, turned)
	if !is || f.Entry != i || f.Code != api.ErrLedger && f.Code != api.ErrTag {
		m.t.Fatalf("byte %d of entry %d (%+v) turned by %d: %+v, %v", at, i, l[i], by, f, is)
	}
}

// 27.5, P0.7: every byte of every entry's Data, turned.
func TestServersTurned(t *testing.T) {
	d := dice(3625609908)
	for range rounds(5) {
		m := newMatch(t, &d).play(6, 1)
		l := m.Ledger()
		for i, x := range l {
			for at := range x.Data {
				m.wantTurned(l, i, at, byte(d.within(1, 255)))
				m.wantTurned(l, i, at, 1<<d.below(8))
			}
		}
	}
}

// 27.5: any byte of longer ledgers.
func TestServersTurnedLong(t *testing.T) {
	d := dice(5963473623)
	for range rounds(20) {
		m := newMatch(t, &d).play(60, 1)
		l := m.Ledger()
		for range 100 {
			if i := d.below(len(l)); l[i].Data != "" {
				m.wantTurned(l, i, d.below(len(l[i].Data)), byte(d.within(1, 255)))
			}
		}
	}
}

// 27.6, and 27.1 of servers' ledgers: what is found in one that was changed is what the plain reading finds, is found whatever stands behind it, and not in what ends ahead of it.
func TestServersChanged(t *testing.T) {
	d := dice(8862269254)
	found := map[api.Errno]int{}
	for range rounds(12) {
		m := newMatch(t, &d).play(15, 1)
		a := d.author()
		l := m.Ledger()
		for range 20 {
			changed := d.change(slices.Clone(l), a)
			if d.one(2) {
				changed = ledger(changed)
			}
			f, is := wantSame(t, m.c, m.tells, changed)
			found[f.Code]++
			if !is {
				m.wantRun(changed)
				continue
			}
			for n := range f.Entry + 1 {
				m.wantNothing(changed[:n])
			}
			for n := f.Entry + 1; n <= len(changed); n++ {
				m.wantFound(changed[:n], f)
			}
			m.wantFound(slices.Concat(changed[:f.Entry+1], l), f)
			m.wantFound(slices.Concat(changed, []api.Entry{{Kind: 9}, a.next()}), f)
		}
	}
	if len(found) < 8 && !testing.Short() {
		t.Errorf("%v", found)
	}
}

func (m *match) wantFound(l []api.Entry, want api.Finding) {
	m.t.Helper()
	if f, is := referee.Judge(m.c, m.tells, l); !is || f != want {
		m.t.Fatalf("%+v, %v, want %+v", f, is, want)
	}
}

// wantRun is 27.7: labels and an arena where nothing is found.
func (m *match) wantRun(l []api.Entry) {
	m.t.Helper()
	labels, e := book.Labels(l)
	walls, _ := board.Parse(m.c.Board)
	if _, f := rule.Run(walls, labels); e != api.OK || f != api.OK {
		m.t.Fatalf("%v, %v of %+v", e, f, l)
	}
}

// 27.7: of any ledger in which nothing is found.
func TestAnyLabels(t *testing.T) {
	d := dice(9159655941)
	for range rounds(100) {
		a := d.author()
		l := a.write(t, 60, map[string]int{})
		labels, e := book.Labels(l)
		walls, _ := board.Parse(a.c.Board)
		if _, f := rule.Run(walls, labels); e != api.OK || f != api.OK {
			t.Fatalf("%v, %v of %+v", e, f, l)
		}
	}
}
