package referee_test

import (
	"fmt"
	"math"
	"slices"
	"strings"
	"testing"

	"joust/api"
	"joust/referee"
)

// This file is 27.1 of any ledgers, against the plain reading of plain_test.go.

// author writes entries that may come next, or nearly may.
type author struct {
	*dice
	c    api.Config
	past *plainPast
	gone []*plainSession // sessions that lived once
}

func (d *dice) author() *author {
	c := wide()
	c.Sessions, c.Idle, c.Rate, c.Burst = d.within(1, 4), d.within(1, 6), pick(d, 0, 3, 8, 16, 1000), d.within(1, 4)
	return &author{dice: d, c: c, past: pastOf(c, nil)}
}

// someone is a session that lives, or did once.
func (a *author) someone() *plainSession {
	if len(a.past.lives) > 0 && !a.one(12) {
		return pick(a.dice, a.past.lives...)
	}
	if len(a.gone) > 0 {
		return pick(a.dice, a.gone...)
	}
	return &plainSession{Entry: join(uint64(a.within(0, 3)), a.below(3), "ann")}
}

// seq is one that is mostly fresh.
func (a *author) seq(s *plainSession) uint64 {
	switch a.below(8) {
	case 0:
		return pick(a.dice, 0, s.high, s.high+64, s.high+65, s.high-63, s.high-64, math.MaxUint64)
	case 1:
		return s.high - uint64(a.below(70))
	case 2, 3:
		return s.high + uint64(a.within(1, 70))
	}
	return s.high + 1
}

func (a *author) cased(name string) string {
	if a.one(3) {
		return strings.Map(func(r rune) rune {
			if folded(string(r-32)) == string(r) {
				return r - 32
			}
			return r
		}, name)
	}
	return name
}

// entry is any one, of its kind mostly as it may be.
func (a *author) entry() api.Entry {
	s := a.someone()
	switch a.below(10) {
	case 0, 1:
		x := join(a.past.sessions+1, a.past.lowest(), a.cased(pick(a.dice, "ann", "bob", "carl", "d\u00f6ra", "fay", "eve")))
		x.From = pick(a.dice, "x", "y", "")
		return x
	case 2, 3, 4:
		return command(s.Entry, a.seq(s))
	case 5:
		return bye(s.Entry, a.seq(s))
	case 6:
		return idle(s.Entry)
	case 7:
		for _, s := range a.past.lives {
			if a.past.overdue(s) {
				return idle(s.Entry)
			}
		}
	}
	return tick()
}

// next is an entry with its Tick; of some one thing is otherwise.
func (a *author) next() api.Entry {
	x := a.entry()
	x.Tick = a.past.n
	if !a.one(6) {
		return x
	}
	other := a.entry()
	switch a.below(12) {
	case 0:
		x.Kind = a.within(0, 5)
	case 1:
		x.Tick += pick[uint64](a.dice, 1, math.MaxUint64)
	case 2:
		x.Session = pick(a.dice, other.Session, 0, a.past.sessions, a.past.sessions+2, a.word())
	case 3:
		x.Player = pick(a.dice, other.Player, x.Player+1, -1, math.MinInt, math.MaxInt)
	case 4:
		x.Name = pick(a.dice, other.Name, a.cased(x.Name), "")
	case 5:
		x.From = pick(a.dice, other.From, "z", "")
	case 6:
		x.Seq = pick(a.dice, other.Seq, 0, x.Seq+1, a.word())
	case 7:
		x.Data = other.Data
	case 8:
		x.Data = a.turned(x.Data)
	case 10, 11:
		if len(x.Data) >= 52 {
			x.Data = tagged(x.Data[:len(x.Data)-32], pick(a.dice, keyOf(x.Session+1), rep("a", 32), rep("b", 32), ""))
		}
	case 9:
		x.Data = pick(a.dice, "", x.Data+"\x00", rep(x.Data, 2), a.bytes(a.below(120)), rep("J01\x03", 400))
	}
	return x
}

// wantSame holds a judgement against the plain one.
func wantSame(t *testing.T, c api.Config, keys func(uint64) (string, bool), l []api.Entry) (api.Finding, bool) {
	t.Helper()
	want, wantIs := plainJudge(c, keys, l)
	got, is := referee.Judge(c, keys, l)
	if got != want || is != wantIs {
		t.Fatalf("%+v, %v, want %+v, %v, of %+v", got, is, want, wantIs, l)
	}
	return got, is
}

// write goes on with a ledger as long as entries are found that may come; each that may not is judged, too, with any ones behind it.
func (a *author) write(t *testing.T, n int, met map[string]int) []api.Entry {
	t.Helper()
	var l []api.Entry
	for range n {
		x := a.next()
		e := a.past.judge(keys, x)
		met[fmt.Sprint(x.Kind, x.Data == "", int(e))]++
		want := api.Finding{}
		if e != api.OK {
			want = api.Finding{Entry: len(l), Code: e}
		}
		behind := append(slices.Clip(l), x)
		if e != api.OK {
			for range a.below(4) {
				behind = append(behind, a.next())
			}
		}
		if got, is := referee.Judge(a.c, keys, behind); got != want || is != (e != api.OK) {
			t.Fatalf("%+v, %v, want %+v, of %+v", got, is, want, behind)
		}
		if e == api.OK {
			if s := a.past.find(x.Session); s != nil && x.Kind == api.LbLeave {
				a.gone = append(a.gone, s)
			}
			l = append(l, x)
			a.past = pastOf(a.c, l)
		}
	}
	return l
}

// 27.1: at each step of any ledger, whatever comes next. All codes are met, of all kinds that have them.
func TestAnyLedger(t *testing.T) {
	d := dice(4669201609)
	met := map[string]int{}
	for range rounds(150) {
		a := d.author()
		wantSame(t, a.c, keys, a.write(t, 150, met))
	}
	wanted := map[int][]api.Errno{
		api.LbTick:    {api.OK, api.ErrLedger},
		api.LbJoin:    {api.OK, api.ErrLedger, api.ErrAccount, api.ErrTag, api.ErrTaken, api.ErrFull},
		api.LbCommand: {api.OK, api.ErrLedger, api.ErrSession, api.ErrSource, api.ErrTag, api.ErrOld, api.ErrSeen, api.ErrFar, api.ErrExcess, api.ErrRate},
		api.LbLeave:   {api.OK, api.ErrLedger, api.ErrSession, api.ErrSource, api.ErrTag, api.ErrOld, api.ErrSeen, api.ErrFar},
	}
	for kind, codes := range wanted {
		for _, e := range codes {
			if met[fmt.Sprint(kind, kind == api.LbTick, int(e))] < rounds(5) {
				t.Errorf("kind %d meets %v too seldom: %v", kind, e, met)
			}
		}
	}
	for _, e := range []api.Errno{api.OK, api.ErrLedger, api.ErrSession} {
		if met[fmt.Sprint(api.LbLeave, true, int(e))] < rounds(5) {
			t.Errorf("leaves by idleness meet %v too seldom: %v", e, met)
		}
	}
}

// 27.1: faults at any place, several at once: entries are taken out, doubled, exchanged, changed.
func TestAnyChanges(t *testing.T) {
	d := dice(2502907875)
	found := map[api.Errno]int{}
	for range rounds(60) {
		a := d.author()
		l := a.write(t, 80, map[string]int{})
		if len(l) < 3 {
			continue
		}
		for range 40 {
			m := slices.Clone(l)
			for range d.within(1, 3) {
				m = d.change(m, a)
			}
			if d.one(2) {
				m = ledger(m)
			}
			f, _ := wantSame(t, a.c, keys, m)
			found[f.Code]++
		}
	}
	if len(found) < 10 {
		t.Errorf("%v", found)
	}
}

// change changes a ledger at any place.
func (d *dice) change(l []api.Entry, a *author) []api.Entry {
	i, k := d.below(len(l)), d.below(len(l))
	switch d.below(6) {
	case 0:
		return slices.Concat(l[:i], l[i+1:], l[i:i+1])
	case 1:
		return slices.Insert(l, i, l[k])
	case 2:
		l[i], l[k] = l[k], l[i]
	case 3:
		return slices.Insert(l, i, a.next())
	case 4:
		l[i].Data = d.turned(l[i].Data)
	case 5:
		l[i].Seq, l[i].From = l[i].Seq+uint64(d.below(2)), l[k].From
	}
	return l
}

// 27.8: any numbers, any texts: each call ends, and none panics.
func TestAnyNumbers(t *testing.T) {
	d := dice(1202056903)
	for range rounds(3000) {
		var l []api.Entry
		for range d.below(6) {
			l = append(l, api.Entry{
				Kind: pick(&d, 1, 2, 3, 4, d.within(-1, 6), int(d.word())), Tick: pick(&d, uint64(len(l)), 0, d.word()), Session: pick(&d, 1, 0, math.MaxUint64, d.word()),
				Player: pick(&d, 0, 1, 31, 32, -1, int(d.word())), Name: pick(&d, "ann", "", d.bytes(d.below(40)), rep("x", 300)), From: d.bytes(d.below(3)), Seq: pick(&d, 0, 1, d.word()),
				Data: pick(&d, "", d.bytes(d.below(2000)), connectOf("ann", rep("a", 32)), commandOf(1, d.word(), keyOf(1)), "J01\x03", "J01\x05", "J01\x07"),
			})
		}
		if d.one(2) {
			l = append(list(join(1, 0, "ann")), l...)
		}
		wantSame(t, config(), keys, l)
		referee.Sessions(l)
		referee.Score(config(), l)
	}
}

// 27.1: an entry at fault behind very many others is found, and soon.
func TestLongLedger(t *testing.T) {
	c := wide()
	c.Rate, c.Idle = 16, 5
	one, two := join(1, 0, "ann"), join(2, 1, "bob")
	l := list(one, two)
	for n := range rounds(20000) {
		l = append(l, command(one, uint64(n+1)))
		if n%3 == 0 {
			l = append(l, command(two, uint64(n+1)))
		}
		l = append(l, tick())
	}
	l = ledger(l, ticks(3), command(two, 9))
	wantFound(t, c, l, len(l)-1, api.ErrOld)
	wantWell(t, c, l[:len(l)-1])
}
