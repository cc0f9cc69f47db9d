package book_test

import (
	"slices"
	"strings"
	"testing"
	"unsafe"

	"joust/api"
	"joust/book"
	"joust/rule"
)

// room is a stretch of memory, from its first byte to the one behind its last.
type room struct{ from, to uintptr }

// listRoom is the memory of a list, its spare room too.
func listRoom[T any](list []T) room {
	var x T
	from := uintptr(unsafe.Pointer(unsafe.SliceData(list)))
	return room{from, from + uintptr(cap(list))*unsafe.Sizeof(x)}
}

func textRoom(s string) room {
	from := uintptr(unsafe.Pointer(unsafe.StringData(s)))
	return room{from, from + uintptr(len(s))}
}

func entryRooms(l []api.Entry) []room {
	rooms := []room{listRoom(l)}
	for _, x := range l {
		rooms = append(rooms, textRoom(x.Name), textRoom(x.From), textRoom(x.Data))
	}
	return rooms
}

func labelRooms(l []api.Label) []room {
	rooms := []room{listRoom(l)}
	for _, x := range l {
		rooms = append(rooms, textRoom(x.Name), listRoom(x.Intents))
	}
	return rooms
}

// wantOwn asks that no two stretches of memory, of one list or of several, have a byte in common.
func wantOwn(t *testing.T, what string, lists ...[]room) {
	t.Helper()
	all := slices.Concat(lists...)
	slices.SortFunc(all, func(x, y room) int { return int(x.from) - int(y.from) })
	end := uintptr(0)
	for _, x := range all {
		if x.from == x.to {
			continue // nothing can be read or written there
		}
		if x.from < end {
			t.Fatalf("%s: memory is shared", what)
		}
		end = x.to
	}
}

// given gives a ledger in memory of its own, each text too, and the list with the room behind it, in which other entries lie.
func given(l []api.Entry) (own, all []api.Entry) {
	all = append(slices.Clone(l), joinOf(900, 30, "spare"), api.Entry{Kind: 77, Player: -5, Data: "room"}, tick())
	for i := range all {
		all[i].Name, all[i].From, all[i].Data = strings.Clone(all[i].Name), strings.Clone(all[i].From), strings.Clone(all[i].Data)
	}
	return all[:len(l)], all
}

// kept is what a list was, in other memory.
func kept(l []api.Entry) []api.Entry {
	_, all := given(l)
	return all[:len(l)]
}

// ledgers are some that Labels takes: with many intents, with joins and leaves, any ones, none.
func ledgers(t *testing.T) [][]api.Entry {
	joins := crowd(7)
	l := slices.Clone(joins)
	for n := range 5 {
		for _, j := range joins[n:] {
			l = append(l, command(j, uint64(n)))
		}
		l = append(l, bye(joins[n], 100), tick())
	}
	d := dice(31415926535)
	list := [][]api.Entry{nil, {}, counted(l...)}
	for range 30 {
		list = append(list, d.ledger(t, 70, map[string]int{}))
	}
	return list
}

func spoilLabels(l []api.Label) {
	l = l[:cap(l)]
	for i := range l {
		intents := l[i].Intents[:cap(l[i].Intents)]
		for k := range intents {
			intents[k] = api.Intent{Player: -9, Throttle: 999}
		}
		l[i] = api.Label{Kind: -1, Name: "spoilt"}
	}
}

// P19.5: Labels leaves the entries and the room behind them; what it answers shares nothing with them, nor with another answer, nor one tick's intents with another's.
func TestShareLabels(t *testing.T) {
	for _, l := range ledgers(t) {
		own, all := given(l)
		before := kept(all)
		one, e := book.Labels(own)
		other, _ := book.Labels(own)
		if e != api.OK || !slices.Equal(all, before) {
			t.Fatalf("%v, or the entries have changed", e)
		}
		wantOwn(t, "Labels", entryRooms(all), labelRooms(one), labelRooms(other))
		want, _ := plainLabels(before[:len(l)])
		spoilLabels(one)
		if again, _ := book.Labels(own); !sameLabels(other, want) || !sameLabels(again, want) || !slices.Equal(all, before) {
			t.Fatal("a change of one answer is seen elsewhere")
		}
		clear(all)
		if !sameLabels(other, want) {
			t.Fatal("a change of the entries is seen in the labels")
		}
	}
}

// P19.5: refused entries stay as they are, too.
func TestShareRefused(t *testing.T) {
	d := dice(16180339887)
	for _, l := range ledgers(t) {
		own, all := given(append(slices.Clone(l), api.Entry{Kind: 5}, d.any(3)))
		before := kept(all)
		wantRefused(t, own)
		if !slices.Equal(all, before) {
			t.Fatal("the entries have changed")
		}
		if _, e := book.Write(append(own, api.Entry{Player: 256})); e != api.ErrRange || !slices.Equal(own, before[:len(own)]) {
			t.Fatal("the entries have changed by Write")
		}
	}
}

// P19.5: Replay likewise.
func TestShareReplay(t *testing.T) {
	b := parsed(t, example)
	for _, l := range ledgers(t) {
		own, all := given(l)
		before := kept(all)
		one, e := book.Replay(b, own)
		other, _ := book.Replay(b, own)
		if e != api.OK || !rule.Equal(one, other) || !slices.Equal(all, before) || b.Print() != example {
			t.Fatalf("%v, or something has changed", e)
		}
		rooms := entryRooms(all)
		for _, s := range []api.State{one, other} {
			rooms = append(rooms, listRoom(s.Cars), listRoom(s.Shots))
			for _, c := range s.Cars {
				rooms = append(rooms, textRoom(c.Name))
			}
		}
		wantOwn(t, "Replay", rooms)
	}
}

// P19.5: Write leaves the entries; two answers share nothing, and nothing with the entries.
func TestShareWrite(t *testing.T) {
	for _, l := range ledgers(t) {
		own, all := given(l)
		before := kept(all)
		one, e := book.Write(own)
		other, _ := book.Write(own)
		if e != api.OK || one != other || !slices.Equal(all, before) {
			t.Fatalf("%v, or the entries have changed", e)
		}
		wantOwn(t, "Write", entryRooms(all), []room{textRoom(one), textRoom(other)})
	}
}

// P19.5: Read's entries share nothing with the text, nor with one another, nor with another answer. (Texts of one byte are Go's own, whoever makes them: here none is.)
func TestShareRead(t *testing.T) {
	for _, l := range ledgers(t) {
		l = slices.Clone(l)
		for i := range l {
			l[i].Name, l[i].From = l[i].Name+"+name", l[i].From+"+from"
		}
		s, e := book.Write(l)
		if e != api.OK {
			t.Fatal(e)
		}
		one, e := book.Read(s)
		other, _ := book.Read(s)
		if e != api.OK || !slices.Equal(one, l) || !slices.Equal(other, l) {
			t.Fatal(e)
		}
		wantOwn(t, "Read", []room{textRoom(s)}, entryRooms(one), entryRooms(other))
		clear(one[:cap(one)])
		if again, _ := book.Read(s); !slices.Equal(other, l) || !slices.Equal(again, l) {
			t.Fatal("a change of one answer is seen in another")
		}
	}
}

// P19.5: entries whose texts are parts of one text.
func TestShareTexts(t *testing.T) {
	text := strings.Clone("annabel")
	ann, bel := joinOf(1, 0, text[:4]), joinOf(2, 1, text[4:])
	ann.From, bel.From = text, text
	l := counted(ann, bel, command(bel, 1), command(ann, 1), tick())
	labels, e := book.Labels(l)
	if e != api.OK || !sameLabels(labels, []api.Label{joined(0, "anna"), joined(1, "bel"), ticked(full(0), full(1))}) {
		t.Fatalf("%+v, %v", labels, e)
	}
	wantOwn(t, "Labels", []room{textRoom(text)}, labelRooms(labels))
	again := joinOf(3, 0, text[:4])
	labels, e = book.Labels(counted(ann, idle(ann), again))
	if e != api.OK {
		t.Fatal(e)
	}
	wantOwn(t, "Labels, one name twice", []room{textRoom(text)}, labelRooms(labels))
}
