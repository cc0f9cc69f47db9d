package demo_test

import (
	"slices"
	"strings"
	"testing"
	"unsafe"

	"joust/api"
	"joust/board"
	"joust/demo"
)

// room is a stretch of memory, from its first byte to the one behind its last.
type room struct{ from, to uintptr }

// listRoom is the memory of a list, its spare room too.
func listRoom[T any](list []T) room {
	var x T
	from := uintptr(unsafe.Pointer(unsafe.SliceData(list)))
	return room{from, from + uintptr(cap(list))*unsafe.Sizeof(x)}
}

// textRooms are the memory of texts. Those of one byte are Go's own, whoever makes them.
func textRooms(texts ...string) []room {
	var rooms []room
	for _, s := range texts {
		if len(s) > 1 {
			from := uintptr(unsafe.Pointer(unsafe.StringData(s)))
			rooms = append(rooms, room{from, from + uintptr(len(s))})
		}
	}
	return rooms
}

func stateRooms(s api.State) []room {
	rooms := []room{listRoom(s.Cars), listRoom(s.Shots)}
	for _, c := range s.Cars {
		rooms = append(rooms, textRooms(c.Name)...)
	}
	return rooms
}

func labelRooms(l []api.Label) []room {
	rooms := []room{listRoom(l)}
	for _, x := range l {
		rooms = append(append(rooms, listRoom(x.Intents)), textRooms(x.Name)...)
	}
	return rooms
}

// wantOwn asks that no two stretches of memory have a byte in common.
func wantOwn(t *testing.T, what string, lists ...[]room) {
	t.Helper()
	rooms := slices.Concat(lists...)
	slices.SortFunc(rooms, func(x, y room) int { return int(x.from) - int(y.from) })
	end := uintptr(0)
	for _, x := range rooms {
		if x.from == x.to {
			continue // nothing can be read or written there
		}
		if x.from < end {
			t.Fatalf("%s: memory is shared", what)
		}
		end = x.to
	}
}

// lent is memory that is written over when it is given back.
type lent struct{ texts [][]byte }

func (m *lent) text(s string) string {
	if s == "" {
		return ""
	}
	b := []byte(s)
	m.texts = append(m.texts, b)
	return unsafe.String(&b[0], len(b))
}

// labels lends labels whose lists have spare room.
func (m *lent) labels(l []api.Label) []api.Label {
	list := make([]api.Label, 0, len(l)+3)
	for _, x := range l {
		x.Name = m.text(x.Name)
		x.Intents = append(make([]api.Intent, 0, len(x.Intents)+2), x.Intents...)
		list = append(list, x)
	}
	return list
}

func (m *lent) back() {
	for _, b := range m.texts {
		for i := range b {
			b[i] = '!'
		}
	}
	m.texts = nil
}

// spoil writes over all that a list of labels has, its spare room too.
func spoil(l []api.Label) {
	for i := range l {
		list := l[i].Intents[:cap(l[i].Intents)]
		for k := range list {
			list[k] = api.Intent{Player: -9, Throttle: 999}
		}
	}
	l = l[:cap(l)]
	for i := range l {
		l[i] = api.Label{Kind: 99, Name: "spoilt"}
	}
}

func spoilState(s api.State) {
	cars, shots := s.Cars[:cap(s.Cars)], s.Shots[:cap(s.Shots)]
	for i := range cars {
		cars[i] = api.Car{Player: -9, Name: "spoilt", Health: -1}
	}
	for i := range shots {
		shots[i] = api.Shot{Id: -9, Left: -9}
	}
}

// told is all that a demo tells, in memory of its own.
type told struct {
	labels []api.Label
	states []api.State
	keys   []uint64
	text   string
}

func tell(t *testing.T, d *demo.Demo) told {
	t.Helper()
	return told{d.Labels(), all(t, d), d.Keys(), d.Write()}
}

func wantTold(t *testing.T, what string, d *demo.Demo, want told) {
	t.Helper()
	now := tell(t, d)
	if !sameLabels(now.labels, want.labels) || !slices.EqualFunc(now.states, want.states, same) || !slices.Equal(now.keys, want.keys) || now.text != want.text {
		t.Fatalf("%s is seen in what the demo tells", what)
	}
}

// 26.8, R11: what is handed to Record is neither changed nor kept.
func TestShareRecord(t *testing.T) {
	d := dice(77)
	for range rounds(10) {
		for _, b := range boards(t) {
			l := d.match(t, b, 80)
			want := tell(t, recorded(t, b, l...))
			var m lent
			given := m.labels(l)
			spare := append(given, api.Label{Kind: 7, Name: "spare"})
			x, e := demo.Record(b, given)
			if e != api.OK || !sameLabels(given, l) || !sameLabels(spare[len(l):], []api.Label{{Kind: 7, Name: "spare"}}) {
				t.Fatalf("Record has changed its labels (%v)", e)
			}
			for i := range given {
				for _, k := range given[i].Intents[len(given[i].Intents):cap(given[i].Intents)] {
					if k != (api.Intent{}) {
						t.Fatal("Record has written behind a list of intents")
					}
				}
			}
			wantTold(t, "nothing", x, want)
			m.back()
			wantTold(t, "a change of a name that was handed in", x, want)
			spoil(given)
			wantTold(t, "a change of the labels that were handed in", x, want)
		}
	}
}

// 26.8, R11: what is handed to Read is not kept.
func TestShareRead(t *testing.T) {
	d := dice(99)
	for range rounds(10) {
		for _, b := range boards(t) {
			l := d.match(t, b, 80)
			text := plainWrite(b, l)
			var m lent
			given := m.text(text)
			x, e := demo.Read(b, given)
			if e != api.OK || given != text {
				t.Fatalf("Read: %v", e)
			}
			want := tell(t, recorded(t, b, l...))
			wantTold(t, "nothing", x, want)
			m.back()
			wantTold(t, "a change of the text that was read", x, want)
		}
	}
}

// 26.8, R11: where another board is laid into the one that was handed in, the demo has its own.
func TestShareBoard(t *testing.T) {
	d := dice(123)
	for range rounds(10) {
		b, other := parsed(t, yard), parsed(t, example)
		l := d.match(t, b, 80)
		one := recorded(t, b, l...)
		two := wantRead(t, b, one.Write(), l...)
		want := tell(t, one)
		*b = *other
		wantTold(t, "a board that was changed", one, want)
		wantTold(t, "a board that was changed", two, want)
		*b = board.Board{}
		wantTold(t, "a board that was emptied", one, want)
		wantTold(t, "a board that was emptied", two, want)
	}
}

// 26.8, R11: what is told is new memory, at each call; writing into it changes no later answer.
func TestShareTold(t *testing.T) {
	d := dice(4711)
	for range rounds(10) {
		for _, b := range boards(t) {
			l := d.match(t, b, 80)
			one := recorded(t, b, l...)
			two := wantRead(t, b, one.Write(), l...)
			want := tell(t, one)
			for _, x := range []*demo.Demo{one, two} {
				for n := range x.Ticks() + 1 {
					s, _ := x.Seek(n)
					again, _ := x.Seek(n)
					wantOwn(t, "Seek", labelRooms(l), stateRooms(s), stateRooms(again))
					spoilState(s)
					if !same(again, want.states[n]) {
						t.Fatal("a change of one state is seen in another")
					}
				}
				wantTold(t, "a change of a state", x, want)
				labels, again := x.Labels(), x.Labels()
				wantOwn(t, "Labels", labelRooms(l), labelRooms(labels), labelRooms(again))
				spoil(labels)
				if !sameLabels(again, l) {
					t.Fatal("a change of labels is seen in others")
				}
				wantTold(t, "a change of labels", x, want)
				keys, others := x.Keys(), x.Keys()
				wantOwn(t, "Keys", []room{listRoom(keys), listRoom(others)})
				clear(keys[:cap(keys)])
				wantTold(t, "a change of the keys", x, want)
			}
			wantOwn(t, "all that is told", labelRooms(l), labelRooms(one.Labels()), labelRooms(two.Labels()), textRooms(one.Write(), one.Write(), two.Write()))
		}
	}
}

// R11: names that are parts of one text, and lists of intents that are parts of one list.
func TestShareParts(t *testing.T) {
	b := parsed(t, yard)
	text := strings.Clone("one text of all")
	list := []api.Intent{{Player: 0, Throttle: 5}, {Player: 1, Throttle: 6}, {Player: 2, Throttle: 7}}
	l := []api.Label{joinOf(0, text), joinOf(1, text[:3]), joinOf(2, text[1:]), tickOf(list...), tickOf(list[:2]...), tickOf(list[1:]...), tickOf(list[:0]...)}
	x := recorded(t, b, l...)
	labels := x.Labels()
	s, e := x.Seek(4)
	if e != api.OK || !sameLabels(labels, l) || s.Cars[0].Name != text || s.Cars[1].Name != "one" {
		t.Fatalf("%+v, %+v, %v", labels, s, e)
	}
	wantOwn(t, "Labels and Seek", []room{listRoom(l), listRoom(list)}, textRooms(text), labelRooms(labels), stateRooms(s))
	clear(list)
	wantSeek(t, x, 4, s)
	if !sameLabels(x.Labels(), labels) {
		t.Error("a change of the intents that were handed in is seen")
	}
}
