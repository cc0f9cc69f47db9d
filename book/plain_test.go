package book_test

import (
	"cmp"
	"math"
	"slices"
	"strings"
	"testing"
	"time"

	"joust/api"
	"joust/board"
	"joust/book"
	"joust/name"
	"joust/rule"
)

// there gives the joins of the sessions that are there behind entries none of which is refused.
func there(l []api.Entry) []api.Entry {
	var joins []api.Entry
	for _, x := range l {
		switch x.Kind {
		case api.LbJoin:
			joins = append(joins, x)
		case api.LbLeave:
			joins = slices.DeleteFunc(joins, func(j api.Entry) bool { return j.Session == x.Session })
		}
	}
	return joins
}

// since gives the entries behind the last tick.
func since(l []api.Entry) []api.Entry {
	for i := len(l) - 1; i >= 0; i-- {
		if l[i].Kind == api.LbTick {
			return l[i+1:]
		}
	}
	return l
}

func ticksOf(l []api.Entry) uint64 {
	n := uint64(0)
	for _, x := range l {
		if x.Kind == api.LbTick {
			n++
		}
	}
	return n
}

func isConnect(data, called string) bool {
	return len(data) == 93+len(called) && data[:4] == head(3) && int(data[60]) == len(called) && data[61:61+len(called)] == called
}

func isCommand(x api.Entry) bool {
	return len(x.Data) == 55 && strings.HasPrefix(x.Data, head(5)+eight(x.Session)+eight(x.Seq)) && x.Data[22] < 4
}

func isBye(x api.Entry) bool {
	return len(x.Data) == 52 && strings.HasPrefix(x.Data, head(7)+eight(x.Session)+eight(x.Seq))
}

// plainMay tells whether an entry may stand behind others, by the chapter's five rules, one after the other.
func plainMay(ahead []api.Entry, x api.Entry) bool {
	if x.Kind < 1 || x.Kind > 4 || x.Tick != ticksOf(ahead) {
		return false
	}
	here := slices.ContainsFunc(there(ahead), func(j api.Entry) bool {
		return j.Session == x.Session && j.Player == x.Player && j.Name == x.Name && j.From == x.From
	})
	switch x.Kind {
	case api.LbTick:
		return x.Session == 0 && x.Player == 0 && x.Name == "" && x.From == "" && x.Seq == 0 && x.Data == ""
	case api.LbCommand:
		second := slices.ContainsFunc(since(ahead), func(y api.Entry) bool { return y.Kind == api.LbCommand && y.Session == x.Session })
		return here && isCommand(x) && !second
	case api.LbLeave:
		return here && (isBye(x) || x.Data == "" && x.Seq == 0)
	}
	if x.Session == 0 || x.Player < 0 || x.Player > 31 || name.Check(x.Name) != api.OK || x.Seq != 0 || !isConnect(x.Data, x.Name) {
		return false
	}
	for _, y := range ahead {
		if y.Session >= x.Session {
			return false
		}
	}
	return !slices.ContainsFunc(there(ahead), func(j api.Entry) bool { return j.Player == x.Player || name.Same(j.Name, x.Name) })
}

// plainIntents gives those of the commands since the last tick whose sessions are there.
func plainIntents(ahead []api.Entry) []api.Intent {
	var list []api.Intent
	for _, j := range there(ahead) {
		for _, x := range since(ahead) {
			if x.Kind == api.LbCommand && x.Session == j.Session {
				throttle, turn := int(int8(x.Data[20])), int(int8(x.Data[21]))
				list = append(list, api.Intent{Player: j.Player, Throttle: max(min(throttle, 100), -100), Turn: max(min(turn, 8), -8), Fire: x.Data[22]%2 == 1, Boost: x.Data[22] > 1})
			}
		}
	}
	slices.SortFunc(list, func(a, b api.Intent) int { return cmp.Compare(a.Player, b.Player) })
	return list
}

func plainLabels(l []api.Entry) ([]api.Label, api.Errno) {
	var labels []api.Label
	for i, x := range l {
		if !plainMay(l[:i], x) {
			return nil, api.ErrLedger
		}
		switch x.Kind {
		case api.LbJoin:
			labels = append(labels, joined(x.Player, x.Name))
		case api.LbLeave:
			labels = append(labels, left(x.Player))
		case api.LbTick:
			labels = append(labels, ticked(plainIntents(l[:i])...))
		}
	}
	return labels, api.OK
}

// wantPlain holds Labels against the plain reading, and answers what it answers.
func wantPlain(t *testing.T, l []api.Entry) ([]api.Label, api.Errno) {
	t.Helper()
	got, e := book.Labels(l)
	want, wantE := plainLabels(l)
	if e != wantE || !sameLabels(got, want) {
		t.Fatalf("Labels(%+v) =\n%+v, %v, want\n%+v, %v", l, got, e, want, wantE)
	}
	return got, e
}

// wantRuns asks for all that P19.2 says of labels.
func wantRuns(t *testing.T, b *board.Board, l []api.Entry, labels []api.Label) {
	t.Helper()
	state, e := rule.Run(b, labels)
	if e != api.OK {
		t.Fatalf("Run(%+v) = %v", labels, e)
	}
	if got, e := book.Replay(b, l); e != api.OK || !rule.Equal(got, state) {
		t.Fatalf("Replay(%+v) = %+v, %v, want %+v", l, got, e, state)
	}
	here := map[int]bool{}
	for _, label := range labels {
		switch label.Kind {
		case api.LbJoin:
			here[label.Player] = true
		case api.LbLeave:
			delete(here, label.Player)
		}
		for i, x := range label.Intents {
			rises := i == 0 || x.Player > label.Intents[i-1].Player
			if label.Kind != api.LbTick || !here[x.Player] || !rises || x.Throttle < -100 || x.Throttle > 100 || x.Turn < -8 || x.Turn > 8 {
				t.Fatalf("%+v: intent %d of %+v", labels, i, label)
			}
		}
	}
}

// The dice's entries: numbers and texts of few, so that they are right often.

func (d *dice) session() uint64 {
	if d.one(20) {
		return some(d, d.word(), 1<<32, 1<<63, math.MaxUint64)
	}
	return uint64(d.below(8))
}

func (d *dice) player() int {
	if d.one(12) {
		return some(d, -1, 31, 32, 256, math.MinInt, math.MaxInt, int(d.word()))
	}
	return d.below(4)
}

func (d *dice) name() string {
	if d.one(12) {
		return some(d, "", "a b", "\xff", "thirteenchars", strings.Repeat("x", 255))
	}
	return some(d, "ann", "Ann", "ANN", "bob", "eve", "\u00e9ve", "\u00c9ve")
}

func (d *dice) from() string { return some(d, "", "x", "y", "\x00\xff") }

func (d *dice) data() string {
	session, seq := d.session(), uint64(d.below(3))
	switch d.below(8) {
	case 0:
		return ""
	case 1:
		return d.bytes(d.below(120))
	case 2:
		return head(byte(d.below(9))) + d.bytes(some(d, 48, 51, 56, 89+d.below(5), 92))
	case 3, 4:
		return connectOf(d.name())
	case 5, 6:
		return commandOf(session, seq, int8(d.word()>>8), int8(d.word()>>9), byte(d.below(5)))
	}
	return byeOf(session, seq)
}

// any gives an entry that is seldom right.
func (d *dice) any(ticks uint64) api.Entry {
	if d.one(8) {
		ticks += uint64(some(d, 1, -1, int(d.word())))
	}
	x := api.Entry{Kind: d.below(6), Tick: ticks, Session: d.session(), Player: d.player(), Name: d.name(), From: d.from(), Seq: uint64(d.below(3)), Data: d.data()}
	if d.one(20) {
		x.Kind = int(d.word())
	}
	return x
}

// right gives an entry that may stand behind a ledger: seldom one that is refused.
func (d *dice) right(l []api.Entry) api.Entry {
	joins := there(l)
	var last uint64
	for _, x := range l {
		last = max(last, x.Session)
	}
	x := tick()
	if len(joins) > 0 {
		j, seq := joins[d.below(len(joins))], uint64(d.below(100))
		switch d.below(12) {
		case 0:
			x = idle(j)
		case 1:
			x = bye(j, seq)
		case 2, 3, 4, 5, 6, 7:
			x = of(j, api.LbCommand, seq, commandOf(j.Session, seq, int8(d.word()>>8), int8(d.below(20)-10), byte(d.below(4))))
		}
	}
	if d.one(len(joins)*2 + 1) {
		called := some(d, "ann", "Ann", "bob", "eve", "\u00e9ve", "\u00c9ve", "carl", "dora", "p"+string(rune('a'+d.below(26))))
		x = api.Entry{Kind: api.LbJoin, Session: last + 1 + uint64(d.below(2)), Player: some(d, d.below(4), d.below(32)), Name: called, From: d.from(), Data: connectOf(called)}
	}
	x.Tick = ticksOf(l)
	return x
}

// spoilt gives an entry with one field from another.
func (d *dice) spoilt(x, y api.Entry) api.Entry {
	switch d.below(8) {
	case 0:
		x.Kind = y.Kind
	case 1:
		x.Tick = y.Tick
	case 2:
		x.Session = y.Session
	case 3:
		x.Player = y.Player
	case 4:
		x.Name = y.Name
	case 5:
		x.From = y.From
	case 6:
		x.Seq = y.Seq
	case 7:
		x.Data = y.Data
	}
	return x
}

// ledger gives one of at most so many entries, all of which may stand, and asks on the way that others may not, just as the plain reading says.
func (d *dice) ledger(t *testing.T, most int, counts map[string]int) []api.Entry {
	var l []api.Entry
	for range most {
		x := d.right(l)
		switch d.below(6) {
		case 0:
			x = d.any(ticksOf(l))
		case 1:
			x = d.spoilt(x, d.any(ticksOf(l)))
		}
		more := append(l, x)
		if _, e := wantPlain(t, more); e != api.OK {
			counts["refused"]++
			continue
		}
		counts[[]string{"", "join", "leave", "tick", "command"}[x.Kind]]++
		l = more
	}
	return l
}

// P19.1, P19.2, P19.3: ledgers that grow by any entries, against the plain reading; the labels of every beginning are a beginning of the labels, one longer behind each entry that is no command.
func TestAnyLedger(t *testing.T) {
	times := 400
	if testing.Short() {
		times = 40
	}
	d := dice(88172645463325252)
	b := parsed(t, example)
	counts := map[string]int{}
	for range times {
		l := d.ledger(t, 10+d.below(80), counts)
		labels, e := book.Labels(l)
		if e != api.OK {
			t.Fatal(e)
		}
		wantRuns(t, b, l, labels)
		n := 0
		for i := range len(l) + 1 {
			if i > 0 && l[i-1].Kind != api.LbCommand {
				n++
			}
			if some, e := book.Labels(l[:i]); e != api.OK || !sameLabels(some, labels[:n]) {
				t.Fatalf("the first %d of %+v: %+v, %v", i, l, some, e)
			}
		}
		for _, label := range labels {
			counts["intent"] += len(label.Intents)
		}
	}
	for _, what := range []string{"refused", "join", "leave", "tick", "command", "intent"} {
		if counts[what] < times {
			t.Errorf("%s came only %d times", what, counts[what])
		}
	}
}

// P19.1: ledgers one of whose entries is spoilt, taken out, or stands elsewhere: refused or not, as the plain reading says.
func TestAnySpoilt(t *testing.T) {
	times := 150
	if testing.Short() {
		times = 15
	}
	d := dice(362436069)
	b := parsed(t, "###\n#S#\n###")
	answers := map[api.Errno]int{}
	for range times {
		l := d.ledger(t, 40, map[string]int{})
		for i := range l {
			all := slices.Clone(l)
			switch d.below(4) {
			case 0:
				all[i] = d.spoilt(l[i], d.any(l[i].Tick))
			case 1:
				all[i] = d.spoilt(l[i], l[d.below(len(l))])
			case 2:
				all = counted(slices.Delete(all, i, i+1)...)
			case 3:
				k := d.below(len(l))
				all[i], all[k] = all[k], all[i]
				all = counted(all...)
			}
			labels, e := wantPlain(t, all)
			answers[e]++
			if e == api.OK {
				wantRuns(t, b, all, labels)
			}
		}
	}
	if answers[api.OK] < 5*times || answers[api.ErrLedger] < 5*times {
		t.Error(answers)
	}
}

// P19.1: entries of any numbers and any bytes.
func TestAnyEntries(t *testing.T) {
	d := dice(521288629)
	b := parsed(t, example)
	for range 3000 {
		var l []api.Entry
		for range 1 + d.below(4) {
			l = append(l, api.Entry{Kind: some(&d, d.below(6), int(d.word())), Tick: some(&d, 0, d.word()), Session: d.word(), Player: some(&d, d.below(40), int(d.word())), Name: d.bytes(d.below(40)), From: d.bytes(d.below(40)), Seq: some(&d, 0, d.word()), Data: d.bytes(d.below(2000))})
		}
		_, e := wantPlain(t, l)
		if _, f := book.Replay(b, l); f != e {
			t.Fatalf("Replay(%+v) = %v, Labels %v", l, f, e)
		}
	}
}

// P19.1: a long ledger, of all players, takes time that grows with its length alone.
func TestLongLedger(t *testing.T) {
	joins := crowd(5)
	l := slices.Clone(joins)
	for n := range 6000 {
		for _, j := range joins[:8] {
			l = append(l, command(j, uint64(n)))
		}
		l = append(l, tick())
	}
	l = counted(l...)
	begun := time.Now()
	labels, e := book.Labels(l)
	if e != api.OK || len(labels) != 6032 || len(labels[6031].Intents) != 8 {
		t.Fatalf("%d labels, %v", len(labels), e)
	}
	if took := time.Since(begun); took > 20*time.Second {
		t.Errorf("%d entries took %v", len(l), took)
	}
}

// R13: the same ledger has the same labels, whatever was asked between.
func TestAnyOnce(t *testing.T) {
	d := dice(88675123)
	for range 20 {
		l := d.ledger(t, 60, map[string]int{})
		want, _ := book.Labels(l)
		for range 10 {
			book.Labels(d.ledger(t, 8, map[string]int{}))
			book.Labels([]api.Entry{d.any(0)})
			if got, e := book.Labels(l); e != api.OK || !sameLabels(got, want) {
				t.Fatalf("%+v, %v, once it was %+v", got, e, want)
			}
		}
	}
}
