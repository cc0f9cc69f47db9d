package referee_test

import (
	"math"
	"slices"
	"testing"

	"joust/api"
	"joust/referee"
)

// This file is the order of 27.1: where several codes apply to an entry, the first one is told.

// fault is one that an entry may have.
type fault struct {
	name string
	code api.Errno
	make func(a *attempt)
}

// attempt is an entry, and what stands ahead of it.
type attempt struct {
	*dice
	has   map[string]bool
	c     api.Config
	ahead []api.Entry
	x     api.Entry
	said  plainData // what the entry's Data says
	key   string    // under which it is sealed; a connect is so under its name's secret
	cut   int       // how many bytes of Data are missing
}

func (a *attempt) secret() string {
	right := secretOf(a.said.name)
	if a.has["tag"] {
		return pick(a.dice, "", right[1:], right+"x", rep("b", 32), keyOf(1))
	}
	return right
}

func (a *attempt) data() string {
	s := ""
	switch a.said.kind {
	case 3:
		s = connectOf(a.said.name, a.secret())
	case 5:
		s = commandOf(a.said.session, a.said.seq, a.key)
	case 7:
		s = byeOf(a.said.session, a.said.seq, a.key)
	}
	return s[:len(s)-a.cut]
}

// tells is the attempt's keys.
func (a *attempt) tells(session uint64) (string, bool) {
	return keyOf(session), !a.has["unknown"] || session != a.x.Session
}

// wantFirst asks for the first of the faults that an attempt has, which is made anew for each set of them.
func wantFirst(t *testing.T, d *dice, faults []fault, begin func(a *attempt)) {
	t.Helper()
	for set := range 1 << len(faults) {
		a := &attempt{dice: d, has: map[string]bool{}}
		want := api.OK
		for i, f := range faults {
			a.has[f.name] = set>>i&1 == 1
			if a.has[f.name] && want == api.OK {
				want = f.code
			}
		}
		begin(a)
		// What is judged first is made last, so that it stays whatever the others make.
		for _, f := range slices.Backward(faults) {
			if a.has[f.name] {
				f.make(a)
			}
		}
		late := a.x.Tick
		a.x.Data = a.data()
		l := ledger(a.ahead, a.x)
		l[len(l)-1].Tick += late
		if f, is := referee.Judge(a.c, a.tells, l[:len(l)-1]); is {
			t.Fatalf("%v: %+v ahead of the entry", a.has, f)
		}
		f, is := referee.Judge(a.c, a.tells, l)
		if is != (want != api.OK) || is && f != (api.Finding{Entry: len(l) - 1, Code: want}) || !is && f != (api.Finding{}) {
			t.Fatalf("%v: %+v behind %d entries: %+v, %v, want %v", a.has, a.x, len(l)-1, f, is, want)
		}
	}
}

func number(d *dice, list ...uint64) uint64 { return pick(d, list...) }

// none is for faults that lie in what is ahead.
func none(*attempt) {}

// late makes a Tick that is another one; the right one is added behind.
func late(a *attempt) { a.x.Tick = number(a.dice, 1, 7, 1<<32, 1<<63, math.MaxUint64) }

// whose makes a player or a name that is not the session's.
func whose(a *attempt) {
	if a.one(2) {
		a.x.Player = pick(a.dice, -1, 0, 2, 32, 257, 1<<32+1, math.MaxInt, math.MinInt)
	} else {
		a.x.Name = pick(a.dice, "", "Ann", "bob", "annn", "an", "ann ")
	}
}

func source(a *attempt) {
	a.x.From = pick(a.dice, "", "home of bob", "home of an", "Home of ann", a.x.From+" ")
}

// dead makes a number that no session has.
func dead(a *attempt) {
	a.x.Session = number(a.dice, 0, 3, 4, 1<<32+2, math.MaxUint64)
	a.said.session = a.x.Session
}

// otherKey seals by a key that is not the session's.
func otherKey(a *attempt) {
	a.key = pick(a.dice, "", keyOf(1), keyOf(3), rep("a", 32), keyOf(2)[1:], keyOf(2)+"x")
}

// unlike makes Data that is of another kind, broken, or says other numbers than the entry.
func unlike(a *attempt) {
	switch a.below(4) {
	case 0:
		a.said.kind = pick(a.dice, 3, 12-a.said.kind)
	case 1:
		a.cut = a.within(1, 51)
	case 2:
		a.said.session ^= number(a.dice, 1, 3, 1<<63, math.MaxUint64)
	case 3:
		a.x.Seq ^= number(a.dice, 1, 2, 1<<63, math.MaxUint64)
	}
}

// stale makes a number that the window refuses. (Behind a command with seq 5, or with none ahead.)
func stale(code api.Errno) func(a *attempt) {
	return func(a *attempt) {
		switch code {
		case api.ErrOld:
			a.said.seq = 0
		case api.ErrSeen:
			a.said.seq = 5
		case api.ErrFar:
			a.said.seq = number(a.dice, 200, 1<<32+7, 1<<63, math.MaxUint64)
		}
		a.x.Seq = a.said.seq
	}
}

// heard begins an attempt of ann's session, which is 2 and player 1: at tick 3, where bob's is overdue. Of a session whose key nobody tells nothing was heard so far.
func heard(kind int, said byte) func(a *attempt) {
	return func(a *attempt) {
		bob, ann := join(1, 0, "bob"), join(2, 1, "ann")
		a.c = wide()
		a.ahead = list(bob, tick(), ann)
		commands := 0
		speak := func(seq uint64) {
			if !a.has["unknown"] {
				a.ahead = append(a.ahead, command(ann, seq))
				commands++
			}
		}
		speak(5)
		a.ahead = append(a.ahead, ticks(2)...)
		if a.has["excess"] {
			speak(6)
		}
		if a.has["idle"] {
			a.ahead = append(a.ahead, idle(bob))
		}
		if a.has["rate"] {
			a.c.Rate, a.c.Burst = 0, max(commands, 1)
		}
		a.x = of(ann, kind, 7, "")
		a.said = plainData{kind: said, session: 2, seq: 7}
		a.key = keyOf(2)
	}
}

// 27.1: of a command, every set of faults. Without a key nothing can wait and no token be taken.
func TestOrderCommand(t *testing.T) {
	d := dice(6931471805)
	for range rounds(3) {
		for _, window := range []api.Errno{api.ErrOld, api.ErrSeen, api.ErrFar} {
			wantFirst(t, &d, []fault{
				{"late", api.ErrLedger, late}, {"idle", api.ErrLedger, none}, {"unlike", api.ErrLedger, unlike}, {"dead", api.ErrSession, dead}, {"source", api.ErrSource, source}, {"tag", api.ErrTag, otherKey},
				{"window", window, stale(window)}, {"excess", api.ErrExcess, none}, {"rate", api.ErrRate, none}, {"whose", api.ErrLedger, whose},
			}, heard(api.LbCommand, 5))
		}
	}
}

// 27.1: of a leave with Data; how many commands there were, and when, is nothing to it.
func TestOrderBye(t *testing.T) {
	d := dice(1414213562)
	for range rounds(3) {
		for _, window := range []api.Errno{api.ErrOld, api.ErrSeen, api.ErrFar} {
			wantFirst(t, &d, []fault{
				{"late", api.ErrLedger, late}, {"idle", api.ErrLedger, none}, {"unlike", api.ErrLedger, unlike}, {"dead", api.ErrSession, dead}, {"source", api.ErrSource, source}, {"tag", api.ErrTag, otherKey},
				{"window", window, stale(window)}, {"whose", api.ErrLedger, whose}, {"excess", api.OK, none}, {"rate", api.OK, none},
			}, heard(api.LbLeave, 7))
		}
	}
}

// 27.1: the same of a session whose key nobody tells.
func TestOrderUnknown(t *testing.T) {
	d := dice(1618033988)
	for kind, said := range map[int]byte{api.LbCommand: 5, api.LbLeave: 7} {
		for range rounds(3) {
			for _, window := range []api.Errno{api.ErrOld, api.ErrFar} {
				wantFirst(t, &d, []fault{
					{"late", api.ErrLedger, late}, {"idle", api.ErrLedger, none}, {"unlike", api.ErrLedger, unlike}, {"dead", api.ErrSession, dead}, {"unknown", api.ErrSession, none}, {"source", api.ErrSource, source}, {"tag", api.ErrTag, otherKey},
					{"window", window, stale(window)}, {"whose", api.ErrLedger, whose},
				}, heard(kind, said))
			}
		}
	}
}

// unlikeConnect makes an entry that is no connect's.
func unlikeConnect(a *attempt) {
	switch a.below(4) {
	case 0:
		a.x.Seq = number(a.dice, 1, 4, 1<<63, math.MaxUint64)
	case 1:
		a.said.kind = pick[byte](a.dice, 5, 7)
	case 2:
		a.cut = a.within(1, 93)
	case 3:
		a.said.name += pick(a.dice, "x", " ", "\x00", "\xff")
	}
}

// otherNumber makes a session or a player that does not come next.
func otherNumber(a *attempt) {
	if a.one(2) {
		a.x.Session = number(a.dice, 0, 1, 3, 5, 7, 1<<32+4, 1<<63+4, math.MaxUint64)
	} else {
		a.x.Player = pick(a.dice, -1, 0, 2, 4, 31, 32, 259, 1<<32+3, math.MinInt, math.MaxInt)
	}
}

// lobbied begins an attempt to join, as carl, at tick 3, where bob's session is overdue.
func lobbied(a *attempt) {
	bob := join(1, 0, "bob")
	a.c = wide()
	a.ahead = list(bob, tick(), join(2, 1, "Ann"), join(3, 2, "D\u00f6RA"), ticks(2))
	if a.has["idle"] {
		a.ahead = append(a.ahead, idle(bob))
	}
	if a.has["full"] {
		a.c.Sessions = 3
	}
	a.x = join(4, 3, "carl")
	a.said = plainData{kind: 3, name: "carl"}
}

// called makes the entry, and what it says, another name's.
func called(names ...string) func(a *attempt) {
	return func(a *attempt) {
		a.x.Name = pick(a.dice, names...)
		a.said.name = a.x.Name
	}
}

// 27.1: of a join, every set of faults. An account that there is not can't be playing.
func TestOrderJoin(t *testing.T) {
	d := dice(2236067977)
	form := []fault{{"late", api.ErrLedger, late}, {"idle", api.ErrLedger, none}, {"unlike", api.ErrLedger, unlikeConnect}}
	tag := fault{"tag", api.ErrTag, none}
	rest := []fault{{"full", api.ErrFull, none}, {"number", api.ErrLedger, otherNumber}}
	account := fault{"account", api.ErrAccount, called("", "eve", "an", "annn", "a b", "ann\x00", "\u00d7")}
	taken := fault{"taken", api.ErrTaken, called("ann", "Ann", "ANN", "d\u00f6ra", "D\u00d6RA")}
	for range rounds(8) {
		wantFirst(t, &d, slices.Concat(form, []fault{account, tag}, rest), lobbied)
		wantFirst(t, &d, slices.Concat(form, []fault{tag, taken}, rest), lobbied)
	}
}

// 27.1: of a leave without Data, every set of faults: bob's, who is overdue, or ann's, who is so too behind another tick, or is not.
func TestOrderIdle(t *testing.T) {
	d := dice(3141592653)
	numbered := func(a *attempt) { a.x.Seq = number(a.dice, 1, 7, 1<<63, math.MaxUint64) }
	owner := func(a *attempt) {
		if a.one(2) {
			whose(a)
		} else {
			source(a)
		}
	}
	for range rounds(40) {
		for _, first := range []string{"early", "second"} {
			wantFirst(t, &d, []fault{{"late", api.ErrLedger, late}, {"numbered", api.ErrLedger, numbered}, {"dead", api.ErrSession, dead}, {"owner", api.ErrLedger, owner}, {first, api.ErrLedger, none}}, func(a *attempt) {
				bob, ann := join(1, 0, "bob"), join(2, 1, "ann")
				a.c = wide()
				switch {
				case a.has["early"]:
					a.ahead = list(bob, ann, ticks(a.within(0, 2)))
				case a.has["second"]:
					a.ahead = list(bob, ann, ticks(3))
				default:
					a.ahead = list(bob, tick(), ann, command(bob, 1), ticks(2), command(bob, 2), tick())
				}
				a.x = of(ann, api.LbLeave, 0, "")
			})
		}
	}
}

// 27.1: of a tick, each field that is not zero, and each session that is overdue.
func TestOrderTick(t *testing.T) {
	d := dice(5773502691)
	for range rounds(10) {
		faults := []fault{
			{"late", api.ErrLedger, late},
			{"session", api.ErrLedger, func(a *attempt) { a.x.Session = number(a.dice, 1, 2, 9, math.MaxUint64) }},
			{"player", api.ErrLedger, func(a *attempt) { a.x.Player = pick(a.dice, -1, 1, 256, math.MinInt) }},
			{"name", api.ErrLedger, func(a *attempt) { a.x.Name = pick(a.dice, "ann", " ", "\x00") }},
			{"from", api.ErrLedger, func(a *attempt) { a.x.From = pick(a.dice, "home of ann", " ", "\x00") }},
			{"seq", api.ErrLedger, func(a *attempt) { a.x.Seq = number(a.dice, 1, 2, math.MaxUint64) }},
			{"data", api.ErrLedger, func(a *attempt) { a.said.kind = 7 }},
			{"overdue", api.ErrLedger, none},
		}
		wantFirst(t, &d, faults, func(a *attempt) {
			bob, ann := join(1, 0, "bob"), join(2, 1, "ann")
			a.c = wide()
			a.ahead = list(bob, ann, ticks(2), command(ann, 1))
			if a.has["overdue"] {
				a.ahead = append(a.ahead, tick())
			}
			a.x = tick()
		})
	}
}
