package rule_test

import (
	"slices"
	"strings"
	"testing"
	"unsafe"

	"joust/api"
	"joust/rule"
)

// room is a stretch of memory, from its first byte to the one behind its last.
type room struct{ from, to uintptr }

// listRoom is the memory of a list, its spare room too.
func listRoom[T any](list []T) room {
	var x T
	from := uintptr(unsafe.Pointer(unsafe.SliceData(list)))
	return room{from, from + uintptr(cap(list))*unsafe.Sizeof(x)}
}

func textRoom(s string) room {
	from := uintptr(unsafe.Pointer(unsafe.StringData(s)))
	return room{from, from + uintptr(len(s))}
}

// rooms gives all memory of a state.
func rooms(s api.State) []room {
	list := []room{listRoom(s.Cars), listRoom(s.Shots)}
	for _, c := range s.Cars {
		list = append(list, textRoom(c.Name))
	}
	return list
}

func labelRooms(l api.Label) []room { return []room{textRoom(l.Name), listRoom(l.Intents)} }

// wantOwn asks that no two stretches of memory, of one list or of several, have a byte in common.
func wantOwn(t *testing.T, what string, lists ...[]room) {
	t.Helper()
	all := slices.Concat(lists...)
	slices.SortFunc(all, func(x, y room) int { return int(x.from) - int(y.from) })
	end := uintptr(0)
	for _, x := range all {
		if x.from == x.to {
			continue // nothing can be read or written there
		}
		if x.from < end {
			t.Fatalf("%s: memory is shared", what)
		}
		end = x.to
	}
}

// given gives a state with memory of its own, behind whose lists there is room with other cars and shots in it.
func given(d *dice, s api.State) (state api.State, cars []api.Car, shots []api.Shot) {
	cars, shots = slices.Clone(s.Cars), slices.Clone(s.Shots)
	for range 1 + d.below(40) {
		cars = append(cars, d.car(units(20, 20)))
		shots = append(shots, d.shot(units(20, 20)))
	}
	for i := range cars {
		cars[i].Name = strings.Clone("car " + cars[i].Name)
	}
	state = s
	state.Cars, state.Shots = cars[:len(s.Cars)], shots[:len(s.Shots)]
	return state, cars, shots
}

// P17.7: what is handed in stays, the room behind it too; what Step answers shares nothing with it, nor with another answer.
func TestShareStep(t *testing.T) {
	times := 500
	if testing.Short() {
		times = 50
	}
	d := dice(77)
	for _, b := range boards(t) {
		for range times {
			s, allCars, allShots := given(&d, d.state(b))
			l := d.label(s)
			l.Name = strings.Clone(l.Name)
			all := append(slices.Clone(l.Intents), api.Intent{Player: 9, Turn: 3}, api.Intent{Player: 8})
			l.Intents = all[:len(l.Intents)]
			carsThen, shotsThen, intentsThen := slices.Clone(allCars), slices.Clone(allShots), slices.Clone(all)
			one, e := rule.Step(b, s, l)
			other, _ := rule.Step(b, s, l)
			if !slices.Equal(allCars, carsThen) || !slices.Equal(allShots, shotsThen) || !slices.Equal(all, intentsThen) {
				t.Fatalf("Step(%+v, %+v) has changed what it was given", s, l)
			}
			if e != api.OK {
				continue
			}
			wantOwn(t, "Step", rooms(s), labelRooms(l), rooms(one), rooms(other))
			behind, _ := rule.Step(b, one, tickOf())
			wantOwn(t, "the next Step", rooms(one), rooms(behind))
			want := twin(other)
			spoil(one)
			if !same(other, want) {
				t.Fatalf("a change of one answer is seen in another")
			}
		}
	}
}

// spoil writes over all that a state has, its spare room too.
func spoil(s api.State) {
	cars, shots := s.Cars[:cap(s.Cars)], s.Shots[:cap(s.Shots)]
	for i := range cars {
		cars[i] = api.Car{Player: -9, Name: "spoilt"}
	}
	for i := range shots {
		shots[i] = api.Shot{Id: -9, Left: -9}
	}
}

// P17.7: Run, whose answers share nothing with the labels, nor with one another.
func TestShareRun(t *testing.T) {
	d := dice(123)
	for _, b := range boards(t) {
		labels := wantMatch(t, &d, b, 6, 150, map[string]int{})
		var handed [][]room
		for i := range labels {
			labels[i].Name = strings.Clone(labels[i].Name)
			handed = append(handed, labelRooms(labels[i]))
		}
		spare := append(labels, joinOf(-1, "spare"))
		before := slices.Clone(spare)
		intents := slices.Clone(labels[len(labels)-1].Intents)
		one, e := rule.Run(b, spare[:len(labels)])
		other, _ := rule.Run(b, spare[:len(labels)])
		if e != api.OK || !same(one, other) {
			t.Fatalf("Run = %+v, %v, and then %+v", one, e, other)
		}
		wantOwn(t, "Run", append(handed, rooms(one), rooms(other))...)
		for i := range spare {
			if spare[i].Kind != before[i].Kind || spare[i].Player != before[i].Player || spare[i].Name != before[i].Name {
				t.Fatalf("label %d has become %+v", i, spare[i])
			}
		}
		if !slices.Equal(labels[len(labels)-1].Intents, intents) {
			t.Fatal("the intents have changed")
		}
		spoil(one)
		if again, _ := rule.Run(b, labels); !same(again, other) {
			t.Fatal("a change of one answer is seen in another")
		}
	}
}

// P17.7: joins whose names are parts of one text.
func TestShareNames(t *testing.T) {
	b := parsed(t, hall)
	text := strings.Clone("one text of all")
	s, e := rule.Run(b, []api.Label{joinOf(0, text), joinOf(1, text[:3]), joinOf(2, text[1:])})
	if e != api.OK || s.Cars[0].Name != "one text of all" || s.Cars[1].Name != "one" || s.Cars[2].Name != "ne text of all" {
		t.Fatalf("%+v, %v", s, e)
	}
	wantOwn(t, "Run", []room{textRoom(text)}, rooms(s))
	s.Cars[0].Name, s.Cars[1].Name, s.Cars[2].Name = text, text[:3], text[1:]
	for what, x := range map[string]api.State{"Copy": rule.Copy(s), "a tick": stepped(t, b, s, tickOf()), "a leave": stepped(t, b, s, leaveOf(0)), "a join": stepped(t, b, s, joinOf(3, text))} {
		wantOwn(t, what, []room{textRoom(text)}, rooms(x))
	}
}

// P17.7: Copy answers the same state in memory of its own.
func TestShareCopy(t *testing.T) {
	d := dice(99)
	for _, b := range boards(t) {
		for range 300 {
			s, allCars, allShots := given(&d, d.state(b))
			carsThen, shotsThen := slices.Clone(allCars), slices.Clone(allShots)
			one, other := rule.Copy(s), rule.Copy(s)
			if !same(one, s) || !same(other, s) {
				t.Fatalf("Copy(%+v) = %+v", s, one)
			}
			wantOwn(t, "Copy", rooms(s), rooms(one), rooms(other))
			spoil(one)
			if !slices.Equal(allCars, carsThen) || !slices.Equal(allShots, shotsThen) || !same(other, s) {
				t.Fatal("a change of a copy is seen elsewhere")
			}
		}
	}
	for _, s := range []api.State{{}, {Cars: []api.Car{}, Shots: []api.Shot{}}, {Tick: 3, Cars: make([]api.Car, 0, 5), Next: -7}} {
		if got := rule.Copy(s); !same(got, s) {
			t.Errorf("Copy(%+v) = %+v", s, got)
		}
	}
}

// Equal: each field of a state, of each of its cars and of each of its shots makes another one; nil and empty lists are one.
func TestEqual(t *testing.T) {
	d := dice(4711)
	b := parsed(t, hall)
	for range 300 {
		s := d.state(b)
		if x := twin(s); !rule.Equal(s, x) || !rule.Equal(x, s) {
			t.Fatalf("%+v is not itself", s)
		}
		for _, x := range changed(s) {
			if rule.Equal(s, x) || rule.Equal(x, s) {
				t.Fatalf("%+v and %+v are said to be one", s, x)
			}
		}
	}
	empty := []api.State{rule.Empty(), {}, {Cars: []api.Car{}}, {Shots: []api.Shot{}}, {Cars: make([]api.Car, 0, 3), Shots: []api.Shot{}}}
	for _, x := range empty {
		for _, y := range empty {
			if !rule.Equal(x, y) {
				t.Errorf("%#v and %#v", x, y)
			}
		}
	}
}

// changed gives states that differ from one in one thing each.
func changed(s api.State) []api.State {
	var list []api.State
	with := func(change func(x *api.State)) {
		x := twin(s)
		change(&x)
		list = append(list, x)
	}
	with(func(x *api.State) { x.Tick++ })
	with(func(x *api.State) { x.Next-- })
	with(func(x *api.State) { x.Cars = append(x.Cars, api.Car{}) })
	with(func(x *api.State) { x.Shots = append(x.Shots, api.Shot{}) })
	if len(s.Cars) > 0 {
		with(func(x *api.State) { x.Cars = x.Cars[:len(x.Cars)-1] })
	}
	if len(s.Shots) > 0 {
		with(func(x *api.State) { x.Shots = x.Shots[:len(x.Shots)-1] })
	}
	for i := range s.Cars {
		with(func(x *api.State) { x.Cars[i].Name += "x" })
		for n := range 14 {
			with(func(x *api.State) {
				c := &x.Cars[i]
				for m, field := range []*int{&c.Player, &c.Heading, &c.Health, &c.Energy, &c.Ammo, &c.Cool, &c.Wait, &c.Spawns, &c.Score} {
					if m == n {
						*field ^= 1
					}
				}
				for m, field := range []*int64{&c.At.X, &c.At.Y, &c.Speed.X, &c.Speed.Y} {
					if 9+m == n {
						*field ^= 1 << 40
					}
				}
				if n == 13 {
					c.Player ^= 1 << 40
				}
			})
		}
	}
	for i := range s.Shots {
		for n := range 7 {
			with(func(x *api.State) {
				c := &x.Shots[i]
				for m, field := range []*int{&c.Id, &c.Player, &c.Left} {
					if m == n {
						*field ^= 1
					}
				}
				for m, field := range []*int64{&c.At.X, &c.At.Y, &c.Speed.X, &c.Speed.Y} {
					if 3+m == n {
						*field ^= 1 << 40
					}
				}
			})
		}
	}
	return list
}
