package view_test

import (
	"slices"
	"strings"
	"testing"
	"unsafe"

	"joust/api"
	"joust/view"
)

// room is a stretch of memory, from its first byte to the one behind its last.
type room struct{ from, to uintptr }

// listRoom is the memory of a list, its spare room too.
func listRoom[T any](list []T) room {
	var x T
	from := uintptr(unsafe.Pointer(unsafe.SliceData(list)))
	return room{from, from + uintptr(cap(list))*unsafe.Sizeof(x)}
}

func textRoom(s string) room {
	from := uintptr(unsafe.Pointer(unsafe.StringData(s)))
	return room{from, from + uintptr(len(s))}
}

func stateRooms(s api.State) []room {
	list := []room{listRoom(s.Cars), listRoom(s.Shots)}
	for _, c := range s.Cars {
		list = append(list, textRoom(c.Name))
	}
	return list
}

func viewRooms(views ...api.View) []room {
	var list []room
	for _, v := range views {
		list = append(list, listRoom(v.Seen), textRoom(v.Own.Name))
	}
	return list
}

// wantOwn asks that no two stretches of memory, of one list or of several, have a byte in common.
func wantOwn(t *testing.T, what string, lists ...[]room) {
	t.Helper()
	all := slices.Concat(lists...)
	slices.SortFunc(all, func(x, y room) int { return int(x.from) - int(y.from) })
	end := uintptr(0)
	for _, x := range all {
		if x.from == x.to {
			continue // nothing can be read or written there
		}
		if x.from < end {
			t.Fatalf("%s: memory is shared", what)
		}
		end = x.to
	}
}

// given is a state with memory of its own, behind whose lists there is room with other cars and shots in it.
type given struct {
	state api.State
	cars  []api.Car
	shots []api.Shot
}

func (d *dice) given() given {
	s := d.state()
	cars, shots := slices.Clone(s.Cars), slices.Clone(s.Shots)
	for i := range 1 + d.below(40) {
		cars = append(cars, d.car(-i, at(0, 0)))
		shots = append(shots, d.shot(-i, 0, at(0, 0)))
	}
	for i := range cars {
		cars[i].Name = strings.Clone("car " + cars[i].Name)
	}
	s.Cars, s.Shots = cars[:len(s.Cars)], shots[:len(s.Shots)]
	return given{s, cars, shots}
}

// wantStay does something with a state: neither it nor the room behind it changes.
func (g given) wantStay(t *testing.T, do func(s api.State)) {
	t.Helper()
	cars, shots := slices.Clone(g.cars), slices.Clone(g.shots)
	tick, next := g.state.Tick, g.state.Next
	do(g.state)
	if !slices.Equal(g.cars, cars) || !slices.Equal(g.shots, shots) || g.state.Tick != tick || g.state.Next != next {
		t.Fatalf("%+v has changed", g.state)
	}
}

// spoil writes over all that a view has, its spare room too, and lengthens it.
func spoil(views ...api.View) {
	for i := range views {
		seen := views[i].Seen[:cap(views[i].Seen)]
		for k := range seen {
			seen[k] = api.Seen{Kind: -9, Id: -9, Heading: -9}
		}
		_ = append(seen[:0], api.Seen{Kind: -8}, api.Seen{Kind: -7})
		views[i].Own = api.Car{Player: -9, Name: "spoilt"}
		views[i].Tick = 9999
	}
}

// held keeps answers: memory that nobody has any more is given out again.
var held []any

// R11: what is handed in stays, the room behind it too; what is answered shares nothing with it, nor with another answer, nor one list of it with another.
func TestShareNothing(t *testing.T) {
	times := 800
	if testing.Short() {
		times = 80
	}
	d := dice(987654321)
	for range times {
		g := d.given()
		radius, show := d.of(1, 3, 5, 1024), d.show()
		g.wantStay(t, func(s api.State) {
			rooms := [][]room{stateRooms(s)}
			for range 2 {
				views := view.All(s, radius, show)
				held = append(held, views)
				rooms = append(rooms, []room{listRoom(views)}, viewRooms(views...))
				for _, p := range plainPlayers(s) {
					v, _ := view.Of(s, p, radius, show)
					held = append(held, v)
					rooms = append(rooms, viewRooms(v))
				}
			}
			wantOwn(t, "views", rooms...)
			held = nil
		})
	}
}

// R11: what was answered may be written over and lengthened: neither the state nor a later answer, nor another one, tells of it.
func TestAnswersMayBeWrittenOver(t *testing.T) {
	times := 500
	if testing.Short() {
		times = 50
	}
	d := dice(13579)
	for range times {
		g := d.given()
		radius, show := d.of(1, 3, 5, 1024), d.show()
		players := plainPlayers(g.state)
		g.wantStay(t, func(s api.State) {
			var want []api.View
			for _, p := range players {
				v, _ := plainOf(s, p, radius, show)
				want = append(want, v)
			}
			all := view.All(s, radius, show)
			spoil(view.All(s, radius, show)...)
			for _, p := range players {
				v, _ := view.Of(s, p, radius, show)
				spoil(v)
			}
			if !slices.EqualFunc(all, want, same) || !slices.EqualFunc(view.All(s, radius, show), want, same) {
				t.Fatalf("All(%+v, %d, %d): not %+v", s, radius, show, want)
			}
			for i, p := range players {
				wantView(t, "written over", s, look{p, radius, show}, want[i])
				spoil(all[i])
				for k := i + 1; k < len(all); k++ {
					if !same(all[k], want[k]) {
						t.Fatalf("view %d has changed by writing into view %d", k, i)
					}
				}
			}
		})
	}
}

// R11: what was answered stays when the state is written over.
func TestAnswersStay(t *testing.T) {
	d := dice(24680)
	for range 200 {
		g := d.given()
		radius, show := d.of(1, 3, 5, 1024), d.show()
		views := view.All(g.state, radius, show)
		var want []api.View
		for _, v := range views {
			want = append(want, copyOf(v))
		}
		for i := range g.cars {
			g.cars[i] = d.car(i, at(0, 0))
		}
		for i := range g.shots {
			g.shots[i] = d.shot(i, 0, at(0, 0))
		}
		view.All(g.state, radius, show)
		if !slices.EqualFunc(views, want, same) {
			t.Fatalf("%+v, want %+v", views, want)
		}
	}
}
