package server_test

import (
	"runtime"
	"slices"
	"strings"
	"testing"
	"unsafe"

	"joust/api"
	"joust/server"
)

// lent is a text in memory that is written over when it is given back.
type lent struct{ all [][]byte }

func (l *lent) text(s string) string {
	if s == "" {
		return ""
	}
	b := []byte(s)
	l.all = append(l.all, b)
	return unsafe.String(&b[0], len(b))
}

func (l *lent) back() {
	for _, b := range l.all {
		for i := range b {
			b[i] = '!'
		}
	}
	l.all = nil
}

// config lends a configuration, its accounts in a list with spare room.
func (l *lent) config(c api.Config) api.Config {
	c.Seed, c.Board = l.text(c.Seed), l.text(c.Board)
	list := make([]api.Account, 0, len(c.Accounts)+3)
	for _, a := range c.Accounts {
		list = append(list, api.Account{Name: l.text(a.Name), Secret: l.text(a.Secret)})
	}
	c.Accounts = list
	return c
}

// P23.8: what is handed in is neither changed nor kept: memory that is written over behind a call changes no later answer.
func TestShareHandedIn(t *testing.T) {
	d := dice(10545718)
	for range rounds(40) {
		c := d.config()
		l, p := d.script(t, c, 200)
		var memory lent
		given := memory.config(c)
		accounts := slices.Clone(given.Accounts[:cap(given.Accounts)])
		s := begun(t, given)
		if !slices.Equal(given.Accounts[:cap(given.Accounts)], accounts) || !slices.Equal(given.Accounts, c.Accounts) || given.Seed != c.Seed || given.Board != c.Board {
			t.Fatal("New has changed a configuration")
		}
		clear(given.Accounts[:cap(given.Accounts)])
		memory.back()
		other := begun(t, c)
		for _, e := range l {
			x := e
			x.From, x.Data = memory.text(e.From), memory.text(e.Data)
			out, err := s.Do(x)
			if x.From != e.From || x.Data != e.Data {
				t.Fatalf("Do has changed %+v", e)
			}
			memory.back()
			if want, wantErr := other.Do(e); err != wantErr || !slices.Equal(out, want) {
				t.Fatalf("%+v: %q, %v, want %q, %v", e, out, err, want, wantErr)
			}
		}
		wantTold(t, "at the end", s, tell(p))
	}
}

// P23.8: Run neither changes nor keeps its events.
func TestShareRun(t *testing.T) {
	d := dice(22971825)
	for range rounds(20) {
		c := d.config()
		l, _ := d.script(t, c, 150)
		given := append(slices.Clone(l), api.Event{Kind: api.EvTake, N: 1000}, api.Event{Kind: 77})
		before := slices.Clone(given)
		one, _ := server.Run(c, given[:len(given)-1])
		other, _ := server.Run(c, given[:len(given)-1])
		if !slices.Equal(given, before) {
			t.Fatal("Run has changed its events")
		}
		wantOwn(t, "Run", configRooms(c), eventRooms(given), outRooms(one), outRooms(other))
	}
}

// room is a stretch of memory, from its first byte to the one behind its last.
type room struct{ from, to uintptr }

// listRoom is the memory of a list, its spare room too.
func listRoom[T any](list []T) room {
	var x T
	from := uintptr(unsafe.Pointer(unsafe.SliceData(list)))
	return room{from, from + uintptr(cap(list))*unsafe.Sizeof(x)}
}

// textRooms are the memory of texts. Those of one byte are Go's own, whoever makes them.
func textRooms(texts ...string) []room {
	var rooms []room
	for _, s := range texts {
		if len(s) > 1 {
			from := uintptr(unsafe.Pointer(unsafe.StringData(s)))
			rooms = append(rooms, room{from, from + uintptr(len(s))})
		}
	}
	return rooms
}

func configRooms(c api.Config) []room {
	rooms := append(textRooms(c.Seed, c.Board), listRoom(c.Accounts))
	for _, a := range c.Accounts {
		rooms = append(rooms, textRooms(a.Name, a.Secret)...)
	}
	return rooms
}

// eventRooms are those of the texts of events, each text once: a script says some of its texts again.
func eventRooms(l []api.Event) []room {
	rooms := []room{listRoom(l)}
	for _, e := range l {
		for _, x := range textRooms(e.From, e.Data) {
			if !slices.Contains(rooms, x) {
				rooms = append(rooms, x)
			}
		}
	}
	return rooms
}

func outRooms(l []api.Out) []room {
	rooms := []room{listRoom(l)}
	for _, x := range l {
		rooms = append(rooms, textRooms(x.To, x.Data)...)
	}
	return rooms
}

func (x told) rooms() []room {
	rooms := append(outRooms(x.waiting), listRoom(x.state.Cars), listRoom(x.state.Shots), listRoom(x.ledger), listRoom(x.lives))
	rooms = append(rooms, textRooms(x.keys...)...)
	for _, c := range x.state.Cars {
		rooms = append(rooms, textRooms(c.Name)...)
	}
	for _, e := range x.ledger {
		rooms = append(rooms, textRooms(e.Name, e.From, e.Data)...)
	}
	for _, l := range x.lives {
		rooms = append(rooms, textRooms(l.Name, l.From)...)
	}
	return rooms
}

// wantOwn asks that no two stretches of memory, of one list or of several, have a byte in common.
func wantOwn(t *testing.T, what string, lists ...[]room) {
	t.Helper()
	all := slices.Concat(lists...)
	slices.SortFunc(all, func(x, y room) int { return int(x.from) - int(y.from) })
	end := uintptr(0)
	for _, x := range all {
		if x.from == x.to {
			continue // nothing can be read or written there
		}
		if x.from < end {
			t.Fatalf("%s: memory is shared", what)
		}
		end = x.to
	}
}

// spoil writes over all lists of a tale, their spare room too.
func (x told) spoil() {
	fill(x.state.Cars, api.Car{Player: -9, Name: "spoilt"})
	fill(x.state.Shots, api.Shot{Id: -9})
	fill(x.ledger, api.Entry{Kind: -9, Data: "spoilt"})
	fill(x.lives, api.Live{Session: 999, From: "spoilt"})
	fill(x.waiting, api.Out{To: "spoilt"})
}

func fill[T any](list []T, with T) {
	list = list[:cap(list)]
	for i := range list {
		list[i] = with
	}
}

// P23.8, R11: what is told is new memory at each time: writing into it changes no later answer, and no two answers have a byte in common.
func TestShareTold(t *testing.T) {
	d := dice(35297394)
	for range rounds(20) {
		c := d.config()
		c.Output = 256
		l, p := d.script(t, c, 150)
		for i, e := range l {
			l[i].From, l[i].Data = strings.Clone(e.From), strings.Clone(e.Data)
		}
		s := begun(t, c)
		rooms := [][]room{configRooms(c), eventRooms(l)}
		// All texts and lists are kept till the end, so that none gets the memory of one that is gone.
		var kept []any
		for i, e := range l {
			out, _ := s.Do(e)
			kept, rooms = append(kept, out, slices.Clone(out)), append(rooms, outRooms(out))
			if i%15 == 14 {
				one, other := tell(s), tell(s)
				rooms = append(rooms, one.rooms(), other.rooms())
				kept = append(kept, slices.Clone(one.state.Cars), slices.Clone(one.ledger), slices.Clone(one.lives), slices.Clone(one.waiting))
				one.spoil()
				wantTold(t, "behind a spoilt answer", s, other)
				kept = append(kept, one, other)
			}
			fill(out, api.Out{To: "spoilt", Data: "spoilt"})
		}
		wantOwn(t, "a server", rooms...)
		wantTold(t, "at the end", s, tell(p))
		runtime.KeepAlive(kept)
	}
}
