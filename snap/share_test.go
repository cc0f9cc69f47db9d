package snap_test

import (
	"slices"
	"strings"
	"sync"
	"testing"
	"unsafe"

	"joust/api"
	"joust/snap"
)

// room is a stretch of memory, from its first byte to the one behind its last.
type room struct{ from, to uintptr }

// listRoom is the memory of a list, its spare room too.
func listRoom[T any](list []T) room {
	var x T
	from := uintptr(unsafe.Pointer(unsafe.SliceData(list)))
	return room{from, from + uintptr(cap(list))*unsafe.Sizeof(x)}
}

// textRoom is the memory of a text. Those of one byte have none of their own: the language's own table of bytes, which nobody writes into, is theirs.
func textRoom(s string) room {
	if len(s) == 1 {
		return room{}
	}
	from := uintptr(unsafe.Pointer(unsafe.StringData(s)))
	return room{from, from + uintptr(len(s))}
}

func viewRooms(v api.View) []room { return []room{listRoom(v.Seen), textRoom(v.Own.Name)} }

// wantOwn asks that no two stretches of memory have a byte in common.
func wantOwn(t *testing.T, rooms ...room) {
	t.Helper()
	slices.SortFunc(rooms, func(x, y room) int { return int(x.from) - int(y.from) })
	end := uintptr(0)
	for _, x := range rooms {
		if x.from == x.to {
			continue // nothing can be read or written there
		}
		if x.from < end {
			t.Fatal("memory is shared")
		}
		end = x.to
	}
}

// given gives a view in memory of its own, and the list with the room behind it, in which others lie.
func (d *dice) given(v api.View) (own api.View, all []api.Seen) {
	all = slices.Clone(v.Seen)
	for range 1 + d.below(300) {
		all = append(all, d.seen())
	}
	v.Own.Name = strings.Clone(v.Own.Name)
	v.Seen = all[:len(v.Seen)]
	return v, all
}

// copyOf is a view in other memory.
func copyOf(v api.View) api.View {
	v.Own.Name = strings.Clone(v.Own.Name)
	v.Seen = slices.Clone(v.Seen)
	return v
}

// spoil writes over all that a view has, its spare room too, and lengthens it.
func spoil(v *api.View) {
	seen := v.Seen[:cap(v.Seen)]
	for i := range seen {
		seen[i] = api.Seen{Kind: -9, Id: -9, At: api.Vec{X: -9, Y: -9}, Heading: -9}
	}
	v.Seen = append(v.Seen, api.Seen{Kind: -8})
	v.Own = api.Car{Player: -9, Name: "spoilt"}
	v.Tick = 9999
}

// held keeps answers: memory that nobody has any more is given out again.
var held []any

// P22.6: what is handed in stays, the room behind it too, also where it is refused.
func TestViewsStay(t *testing.T) {
	d := dice(41)
	for range 1000 {
		v := d.view(d.below(30), d.below(60))
		if d.one(4) && len(v.Seen) > 0 {
			v.Seen[d.below(len(v.Seen))].Kind = d.number()
		}
		v, all := d.given(v)
		was, behind := copyOf(v), slices.Clone(all)
		_, e := snap.Write(v)
		_, f := snap.Make(1, 2, v, "k")
		_, wantE := plainWrite(v)
		_, wantF := plainMake(1, 2, v, "k")
		if e != wantE || f != wantF {
			t.Fatalf("Write: %v, want %v; Make: %v, want %v", e, wantE, f, wantF)
		}
		if !same(v, was) || !slices.Equal(all, behind) {
			t.Fatalf("%+v has changed", was)
		}
	}
}

// P22.6: no answer has memory of an argument, or of another answer.
func TestShareNothing(t *testing.T) {
	d := dice(42)
	for range 500 {
		v, _ := d.given(d.small())
		key := d.bytes(d.below(80))
		var written, made [2]string
		rooms := append(viewRooms(v), textRoom(key))
		for i := range 2 {
			written[i], _ = snap.Write(v)
			made[i], _ = snap.Make(1, 2, v, key)
			rooms = append(rooms, textRoom(written[i]), textRoom(made[i]))
		}
		for range 2 {
			read, e := snap.Read(written[0])
			_, _, opened, f := snap.Open(made[0], key)
			if e != api.OK || f != api.OK {
				t.Fatal(e, f)
			}
			held = append(held, read, opened)
			rooms = append(append(rooms, viewRooms(read)...), viewRooms(opened)...)
		}
		wantOwn(t, rooms...)
		held = nil
	}
}

// P22.6: what was read may be written over and lengthened: no later answer tells of it, and none was changed by it.
func TestAnswersMayBeWrittenOver(t *testing.T) {
	d := dice(43)
	for range 500 {
		v := d.small()
		written, made := wantWritten(t, v), wantMade(t, 1, 2, v, "k")
		first, _ := snap.Read(written)
		_, _, second, _ := snap.Open(made, "k")
		kept, _ := snap.Read(written)
		spoil(&first)
		if !same(second, v) || !same(kept, v) {
			t.Fatal("another answer has changed")
		}
		spoil(&second)
		if !same(kept, v) {
			t.Fatal("another answer has changed")
		}
		wantWritten(t, v)
		wantMade(t, 1, 2, v, "k")
	}
}

// P22.6: what was answered stays, whatever is called later, and whatever becomes of what was handed in.
func TestAnswersStay(t *testing.T) {
	d := dice(44)
	for range 300 {
		v, all := d.given(d.small())
		was := copyOf(v)
		written, _ := snap.Write(v)
		made, _ := snap.Make(1, 2, v, "k")
		read, _ := snap.Read(written)
		_, _, opened, _ := snap.Open(made, "k")
		for i := range all {
			all[i] = d.seen()
		}
		for range 3 {
			other := d.small()
			wantWritten(t, other)
			wantMade(t, d.word(), d.word(), other, d.bytes(32))
			wantRead(t, d.bytes(200))
			wantOpen(t, "J01\x06"+d.bytes(200), "k")
		}
		wantBytes, _ := plainWrite(was)
		wantData, _ := plainMake(1, 2, was, "k")
		if !same(read, was) || !same(opened, was) || written != wantBytes || made != wantData {
			t.Fatal("an answer has changed")
		}
	}
}

// Nothing is kept, so many may call at one time, also with one view.
func TestManyAtOnce(t *testing.T) {
	d := dice(45)
	v := d.view(24, 32)
	want, _ := plainMake(1, 2, v, "k")
	var all sync.WaitGroup
	for range 8 {
		all.Go(func() {
			for range 50 {
				s, e := snap.Make(1, 2, v, "k")
				if s != want || e != api.OK || !open(want, "k").is(opened{1, 2, v, api.OK}) {
					t.Error("another answer")
				}
			}
		})
	}
	all.Wait()
}
