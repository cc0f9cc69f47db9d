package demo_test

import (
	"fmt"
	"slices"
	"testing"

	"joust/api"
	"joust/book"
	"joust/client"
	"joust/demo"
	"joust/frame"
	"joust/rule"
	"joust/server"
	"joust/snap"
	"joust/view"
)

// This file is P0.6: what is written is read back, of a server's match; and a demo of it is the Rulebook's arena, and the server's own, at any tick.

// person plays by a client.
type person struct {
	*client.Client
	from string
	away int // ticks for which it says nothing
}

// match is played on a server; what was told of it is kept.
type match struct {
	*server.Server
	*dice
	t       *testing.T
	c       api.Config
	persons []*person
	states  []api.State // behind each tick, and ahead of the first
	wire    []string    // all datagrams, whoever has sent them
}

func newMatch(t *testing.T, d *dice) *match {
	t.Helper()
	c := api.Config{
		Sessions: d.within(1, 6), Output: 256, Rate: 32, Burst: 20, SourceRate: 160, SourceBurst: 1000, Idle: d.within(3, 6), Life: d.within(3, 9),
		Radius: pick(d, 5, 20, 60), Show: pick(d, 1, 4, 32), Seed: d.bytes(32), Board: pick(d, example, yard),
	}
	for i := range 6 {
		c.Accounts = append(c.Accounts, api.Account{Name: fmt.Sprint("name", i), Secret: d.bytes(32)})
	}
	s, e := server.New(c)
	if e != api.OK {
		t.Fatal(e)
	}
	m := &match{Server: s, dice: d, t: t, c: c, states: []api.State{s.State()}}
	for i, a := range c.Accounts {
		p, e := client.New(a, d.bytes(16))
		if e != api.OK {
			t.Fatal(e)
		}
		m.persons = append(m.persons, &person{Client: p, from: fmt.Sprint("home ", i)})
	}
	return m
}

// send lets the server hear what a person says, and the persons what it answers.
func (m *match) send(p *person, data string, e api.Errno) {
	if e != api.OK || data == "" {
		return
	}
	m.wire = append(m.wire, data)
	m.Do(api.Event{Kind: api.EvData, From: p.from, Data: data})
	m.reply()
}

func (m *match) reply() {
	out, _ := m.Do(api.Event{Kind: api.EvTake, N: 1000})
	for _, x := range out {
		m.wire = append(m.wire, x.Data)
		for _, p := range m.persons {
			if p.from == x.To {
				answer, e := p.Hear(x.Data)
				m.send(p, answer, e)
			}
		}
	}
}

// act is what a person does ahead of a tick.
func (m *match) act(p *person) {
	if p.away > 0 {
		p.away--
		return
	}
	_, _, playing := p.Playing()
	switch {
	case m.one(30):
		p.away = m.within(1, 12)
	case playing && m.one(40):
		data, e := p.Bye()
		m.send(p, data, e)
	case playing:
		data, e := p.Command(api.Command{Throttle: m.within(-128, 127), Turn: m.within(-128, 127), Fire: m.one(2), Boost: m.one(3)})
		m.send(p, data, e)
	default:
		data, e := p.Hello()
		m.send(p, data, e)
	}
}

func (m *match) play(ticks int) {
	for range ticks {
		for _, p := range m.persons {
			m.act(p)
		}
		m.Do(api.Event{Kind: api.EvTick})
		m.states = append(m.states, m.State())
		m.reply()
	}
}

// labels are the ledger's, behind it was written and read back.
func (m *match) labels() []api.Label {
	m.t.Helper()
	ledger := m.Ledger()
	text, e := book.Write(ledger)
	again, f := book.Read(text)
	if e != api.OK || f != api.OK || !slices.Equal(again, ledger) {
		m.t.Fatalf("a ledger of %d entries: %v, %v", len(ledger), e, f)
	}
	labels, e := book.Labels(again)
	if e != api.OK {
		m.t.Fatalf("the labels of %d entries: %v", len(ledger), e)
	}
	return labels
}

// P0.6: demos of servers' matches, as they were recorded and as they were read back.
func TestServersMatch(t *testing.T) {
	d := dice(10545718)
	met := map[int]int{}
	for range rounds(12) {
		m := newMatch(t, &d)
		m.play(d.within(60, 200))
		b := parsed(t, m.c.Board)
		l := m.labels()
		one := recorded(t, b, l...)
		other := wantRead(t, b, one.Write(), l...)
		if one.Ticks() != uint64(len(m.states)-1) {
			t.Fatalf("%d ticks of %d", one.Ticks(), len(m.states)-1)
		}
		wantEverywhere(t, b, one, l)
		for n, s := range m.states {
			wantSeek(t, one, uint64(n), s)
			wantSeek(t, other, uint64(n), s)
		}
		if s := ran(t, b, l...); !rule.Equal(s, m.State()) {
			t.Fatalf("the labels leave %+v, want %+v", s, m.State())
		}
		for _, x := range l {
			met[x.Kind]++
		}
	}
	if met[api.LbJoin] < rounds(30) || met[api.LbLeave] < rounds(20) {
		t.Errorf("%v", met)
	}
}

// P0.6: the datagrams and the views of a match, as they went over the wire, and of its demo behind every tick.
func TestServersWire(t *testing.T) {
	d := dice(362436069)
	for range rounds(6) {
		m := newMatch(t, &d)
		m.play(50)
		kinds := map[int]int{}
		for _, s := range m.wire {
			x, e := frame.Decode(s)
			if e != api.OK {
				t.Fatalf("%q: %v", s, e)
			}
			again, e := frame.Encode(x)
			if e != api.OK || again != s {
				t.Fatalf("%q is written back as %q, %v", s, again, e)
			}
			kinds[x.Kind]++
			if x.Kind == api.KdSnapshot {
				wantView(t, x.Data)
			}
		}
		for kind := api.KdHello; kind <= api.KdSnapshot; kind++ {
			if kinds[kind] == 0 {
				t.Errorf("no datagram of kind %d", kind)
			}
		}
		for _, s := range all(t, recorded(t, parsed(t, m.c.Board), m.labels()...)) {
			for _, v := range view.All(s, m.c.Radius, m.c.Show) {
				text, e := snap.Write(v)
				if again, f := snap.Read(text); e != api.OK || f != api.OK || !view.Equal(again, v) {
					t.Fatalf("%+v: %v, %v", v, e, f)
				}
			}
		}
	}
}

// wantView asks that a view that is read is written so.
func wantView(t *testing.T, s string) {
	t.Helper()
	v, e := snap.Read(s)
	if e != api.OK {
		t.Fatalf("%q: %v", s, e)
	}
	if again, e := snap.Write(v); e != api.OK || again != s {
		t.Fatalf("%q is written back as %q, %v", s, again, e)
	}
}

// P0.6: demos of every beginning of a match's ledger.
func TestServersBeginnings(t *testing.T) {
	d := dice(8675309)
	m := newMatch(t, &d)
	m.play(rounds(70))
	ledger := m.Ledger()
	b := parsed(t, m.c.Board)
	for n := range len(ledger) + 1 {
		l, e := book.Labels(ledger[:n])
		if e != api.OK {
			t.Fatal(e)
		}
		x, e := demo.Record(b, l)
		if e != api.OK {
			t.Fatal(e)
		}
		wantSeek(t, x, x.Ticks(), m.states[x.Ticks()])
		wantRead(t, b, x.Write(), l...)
	}
}
