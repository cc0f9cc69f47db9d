package referee_test

import (
	"maps"
	"slices"
	"testing"
	"unsafe"

	"joust/api"
	"joust/referee"
)

// This file is R11: what is told is new memory, what is handed in stays as it was and is not kept.

// room is a stretch of memory, from its first byte to the one behind its last.
type room struct{ from, to uintptr }

// listRoom is the memory of a list, its spare room too.
func listRoom[T any](list []T) room {
	var x T
	from := uintptr(unsafe.Pointer(unsafe.SliceData(list)))
	return room{from, from + uintptr(cap(list))*unsafe.Sizeof(x)}
}

// textRooms are the memory of texts. Those of one byte are Go's own, whoever makes them.
func textRooms(texts ...string) []room {
	var rooms []room
	for _, s := range texts {
		if len(s) > 1 {
			from := uintptr(unsafe.Pointer(unsafe.StringData(s)))
			rooms = append(rooms, room{from, from + uintptr(len(s))})
		}
	}
	return rooms
}

// wantOwn asks that no two stretches of memory have a byte in common.
func wantOwn(t *testing.T, what string, lists ...[]room) {
	t.Helper()
	rooms := slices.Concat(lists...)
	slices.SortFunc(rooms, func(x, y room) int { return int(x.from) - int(y.from) })
	end := uintptr(0)
	for _, x := range rooms {
		if x.from == x.to {
			continue // nothing can be read or written there
		}
		if x.from < end {
			t.Fatalf("%s: memory is shared", what)
		}
		end = x.to
	}
}

// lent is memory that is written over when it is given back.
type lent struct{ texts [][]byte }

func (m *lent) text(s string) string {
	if s == "" {
		return ""
	}
	b := []byte(s)
	m.texts = append(m.texts, b)
	return unsafe.String(&b[0], len(b))
}

// entries lends a ledger with spare room, in which other entries lie.
func (m *lent) entries(l []api.Entry) []api.Entry {
	all := append(slices.Clone(l), join(900, 30, "spare"), api.Entry{Kind: 77, Player: -5, Data: "room"}, tick())
	for i, x := range all {
		all[i].Name, all[i].From, all[i].Data = m.text(x.Name), m.text(x.From), m.text(x.Data)
	}
	return all[:len(l)]
}

func (m *lent) config(c api.Config) api.Config {
	c.Seed, c.Board = m.text(c.Seed), m.text(c.Board)
	c.Accounts = append(slices.Clone(c.Accounts), api.Account{Name: "spare"})[:len(c.Accounts)]
	for i, a := range c.Accounts {
		c.Accounts[i] = api.Account{Name: m.text(a.Name), Secret: m.text(a.Secret)}
	}
	return c
}

// keys lends each key.
func (m *lent) keys(session uint64) (string, bool) { return m.text(keyOf(session)), true }

func (m *lent) back() {
	for _, b := range m.texts {
		for i := range b {
			b[i] = '!'
		}
	}
	m.texts = nil
}

// kept is a copy of all that a list has, its spare room too.
func kept(l []api.Entry) []api.Entry {
	all := slices.Clone(l[:cap(l)])
	for i, x := range all {
		all[i].Name, all[i].From, all[i].Data = string([]byte(x.Name)), string([]byte(x.From)), string([]byte(x.Data))
	}
	return all
}

// wantKept asks that a list, and its spare room, is what it was.
func wantKept(t *testing.T, what string, l, before []api.Entry) {
	t.Helper()
	if !slices.Equal(l[:cap(l)], before) {
		t.Fatalf("%s changes the entries", what)
	}
}

// some are any ledgers, with their configurations; half of them have an entry at fault.
func some(t *testing.T, d *dice, n int, do func(c api.Config, l []api.Entry)) {
	t.Helper()
	for range rounds(n) {
		a := d.author()
		l := a.write(t, 40, map[string]int{})
		do(a.c, l)
		do(a.c, append(l, api.Entry{Kind: 9}))
	}
}

// R11, R13: Judge changes and keeps nothing, and tells the same again.
func TestShareJudge(t *testing.T) {
	d := dice(1772453850)
	some(t, &d, 30, func(c api.Config, l []api.Entry) {
		var m lent
		given, own := m.entries(l), m.config(c)
		before, accounts := kept(given), slices.Clone(own.Accounts[:cap(own.Accounts)])
		want, wantIs := plainJudge(c, keys, l)
		for range 2 {
			if f, is := referee.Judge(own, m.keys, given); f != want || is != wantIs {
				t.Fatalf("%+v, %v, want %+v, %v", f, is, want, wantIs)
			}
		}
		wantKept(t, "Judge", given, before)
		if !slices.Equal(own.Accounts[:cap(own.Accounts)], accounts) || own.Seed != c.Seed || own.Board != c.Board {
			t.Fatal("Judge changes the configuration")
		}
		m.back()
		if f, is := referee.Judge(c, keys, l); f != want || is != wantIs {
			t.Fatalf("behind memory that is written over: %+v, %v, want %+v, %v", f, is, want, wantIs)
		}
	})
}

// R11: a key is looked at while it is told, and no longer: the same memory may hold the next one.
func TestShareKeys(t *testing.T) {
	one, two := join(1, 0, "ann"), join(2, 1, "bob")
	l := ledger(one, two, command(one, 1), command(two, 1), tick(), command(two, 2), bye(one, 2), tick(), bye(two, 3))
	b := make([]byte, 32)
	f, is := referee.Judge(wide(), func(session uint64) (string, bool) {
		copy(b, keyOf(session))
		return unsafe.String(&b[0], len(b)), true
	}, l)
	if is {
		t.Errorf("%+v", f)
	}
}

// R11: lists of Sessions share nothing with one another, nor with another answer's.
func TestShareSessions(t *testing.T) {
	d := dice(2506628274)
	some(t, &d, 30, func(c api.Config, l []api.Entry) {
		var m lent
		given := m.entries(l)
		before := kept(given)
		one, other := referee.Sessions(given), referee.Sessions(given)
		wantKept(t, "Sessions", given, before)
		m.back()
		rooms := []room{listRoom(given)}
		for session := range one {
			rooms = append(rooms, listRoom(one[session]), listRoom(other[session]))
		}
		wantOwn(t, "Sessions", rooms)
		for session, places := range one {
			places = places[:cap(places)]
			for i := range places {
				places[i] = -9
			}
			one[session+1000] = places
		}
		if !maps.EqualFunc(referee.Sessions(l), other, slices.Equal) {
			t.Fatal("a change of one answer is seen in another")
		}
	})
}

// R11: Score's names are not the ledger's memory, nor another answer's; its map may be written to.
func TestShareScore(t *testing.T) {
	d := dice(3544907701)
	named := 0
	some(t, &d, 30, func(c api.Config, l []api.Entry) {
		var m lent
		given, own := m.entries(l), m.config(c)
		before := kept(given)
		want, wantErr := referee.Score(c, l)
		one, e := referee.Score(own, given)
		other, _ := referee.Score(own, given)
		wantKept(t, "Score", given, before)
		if e != wantErr || !maps.Equal(one, want) {
			t.Fatalf("%v, %v, want %v, %v", one, e, want, wantErr)
		}
		var rooms []room
		for _, x := range given[:cap(given)] {
			rooms = append(rooms, textRooms(x.Name, x.From, x.Data)...)
		}
		for _, scores := range []map[string]int{one, other} {
			for name := range scores {
				rooms = append(rooms, textRooms(name)...)
				named++
			}
		}
		wantOwn(t, "Score", rooms)
		m.back()
		if e == api.OK {
			other["another"] = 7
		}
		if !maps.Equal(one, want) {
			t.Fatalf("behind memory that is written over: %v, want %v", one, want)
		}
	})
	if named < rounds(40) {
		t.Errorf("only %d names", named)
	}
}

// An answer without entries may be written to, too.
func TestShareNone(t *testing.T) {
	referee.Sessions(nil)[1] = []int{1}
	scores, _ := referee.Score(config(), nil)
	scores["ann"]++
	wantSessions(t, nil, map[uint64][]int{})
	wantScore(t, config(), nil, map[string]int{}, api.OK)
}
