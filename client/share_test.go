package client_test

import (
	"runtime"
	"slices"
	"strings"
	"testing"
	"unsafe"

	"joust/api"
	"joust/view"
)

// lent is memory that is written over when it is given back.
type lent struct{ all [][]byte }

func (l *lent) text(s string) string {
	if s == "" {
		return ""
	}
	b := []byte(s)
	l.all = append(l.all, b)
	return unsafe.String(&b[0], len(b))
}

func (l *lent) back() {
	for _, b := range l.all {
		for i := range b {
			b[i] = '!'
		}
	}
	l.all = nil
}

// R11: what is handed in is neither changed nor kept: memory that is written over behind a call changes no later answer.
func TestShareHandedIn(t *testing.T) {
	d := dice(24011)
	for range rounds(100) {
		k, p := d.post(t)
		var memory lent
		a, nonce := api.Account{Name: memory.text(p.account.Name), Secret: memory.text(p.account.Secret)}, memory.text(p.nonce)
		b := both{begun(t, a, nonce), p, t}
		if a != p.account || nonce != p.nonce {
			t.Fatal("New has changed what was handed in")
		}
		memory.back()
		b.hello()
		for range 60 {
			call, _ := k.honest()
			if k.one(3) {
				s := k.letter()
				call = func(c clients) (string, api.Errno) { return c.Hear(s) }
			}
			b.answer("lent memory", func(c clients) (string, api.Errno) {
				if c == b.p {
					return call(c)
				}
				return call(lender{c, t})
			})
		}
	}
}

// lender is a client that hears datagrams in memory which is written over behind it.
type lender struct {
	clients
	t *testing.T
}

func (l lender) Hear(data string) (string, api.Errno) {
	l.t.Helper()
	var memory lent
	given := memory.text(data)
	s, e := l.clients.Hear(given)
	if given != data {
		l.t.Fatalf("%q was changed", data)
	}
	s = strings.Clone(s)
	memory.back()
	return s, e
}

// room is a stretch of memory, from its first byte to the one behind its last.
type room struct{ from, to uintptr }

// textRooms are the memory of texts. Those of one byte are Go's own, whoever makes them.
func textRooms(texts ...string) []room {
	var rooms []room
	for _, s := range texts {
		if len(s) > 1 {
			from := uintptr(unsafe.Pointer(unsafe.StringData(s)))
			rooms = append(rooms, room{from, from + uintptr(len(s))})
		}
	}
	return rooms
}

// viewRooms are the memory of a view, its spare room too.
func viewRooms(v api.View) []room {
	from := uintptr(unsafe.Pointer(unsafe.SliceData(v.Seen)))
	return append(textRooms(v.Own.Name), room{from, from + uintptr(cap(v.Seen))*unsafe.Sizeof(api.Seen{})})
}

// wantOwn asks that no two stretches of memory have a byte in common.
func wantOwn(t *testing.T, all []room) {
	t.Helper()
	slices.SortFunc(all, func(x, y room) int { return int(x.from) - int(y.from) })
	end := uintptr(0)
	for _, x := range all {
		if x.from == x.to {
			continue // nothing can be read or written there
		}
		if x.from < end {
			t.Fatal("memory is shared")
		}
		end = x.to
	}
}

// R11: what is told is new memory each time: no two answers have a byte in common, nor an answer and what was handed in, and writing into one changes no later one.
func TestShareTold(t *testing.T) {
	d := dice(24012)
	for range rounds(60) {
		k, p := d.post(t)
		a, nonce := api.Account{Name: strings.Clone(p.account.Name), Secret: strings.Clone(p.account.Secret)}, strings.Clone(p.nonce)
		b := both{begun(t, a, nonce), p, t}
		rooms := textRooms(a.Name, a.Secret, nonce)
		// All is kept till the end, so that none gets the memory of one that is gone.
		kept := []any{a, nonce}
		for range 80 {
			call, data := k.honest()
			s, _ := b.answer("a call", call)
			rooms = append(rooms, textRooms(s, data)...)
			one, _ := b.c.View()
			other, has := b.c.View()
			rooms = append(append(rooms, viewRooms(one)...), viewRooms(other)...)
			kept = append(kept, s, data, one, other, one.Own.Name)
			before := slices.Clone(other.Seen)
			spoil(&one)
			if !slices.Equal(other.Seen, before) {
				t.Fatal("another answer has changed")
			}
			if later, still := b.c.View(); still != has || !view.Equal(later, other) {
				t.Fatal("a later answer has changed")
			}
			b.told("behind a spoilt answer")
		}
		wantOwn(t, rooms)
		runtime.KeepAlive(kept)
	}
}

// spoil writes over a view, its spare room too.
func spoil(v *api.View) {
	seen := v.Seen[:cap(v.Seen)]
	for i := range seen {
		seen[i] = api.Seen{Kind: -9, Id: -9, Heading: -9}
	}
	v.Seen = append(v.Seen, api.Seen{Kind: -8})
	v.Tick, v.Own = 999, api.Car{Player: -9, Name: "spoilt"}
}

// R13: what a client answers hangs on what was done to it alone: many at one time, each as if it were the only one.
func TestManyClients(t *testing.T) {
	for i := range 8 {
		t.Run("", func(t *testing.T) {
			t.Parallel()
			d := dice(24013 + i%4)
			for range rounds(20) {
				k, p := d.post(t)
				b := both{begun(t, p.account, p.nonce), p, t}
				for range 60 {
					call, _ := k.honest()
					b.answer("amid others", call)
				}
			}
		})
	}
}
