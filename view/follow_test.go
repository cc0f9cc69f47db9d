package view_test

import (
	"math"
	"reflect"
	"slices"
	"testing"

	"joust/api"
	"joust/view"
)

// look is a question to Of.
type look struct{ player, radius, show int }

// looks gives a state without two of one number, and a question to which there is an answer.
func (d *dice) looks() (api.State, look) {
	s := d.fair()
	return s, look{s.Cars[d.below(len(s.Cars))].Player, d.radius(), d.show()}
}

func twin(s api.State) api.State {
	s.Cars, s.Shots = slices.Clone(s.Cars), slices.Clone(s.Shots)
	return s
}

func wantView(t *testing.T, what string, s api.State, q look, want api.View) {
	t.Helper()
	if v := asked(t, s, q.player, q.radius, q.show); !same(v, want) {
		t.Fatalf("%s: Of(%+v, %+v): %+v, want %+v", what, s, q, v, want)
	}
}

func tells(v api.View, kind, id int) bool {
	return slices.ContainsFunc(v.Seen, func(x api.Seen) bool { return x.Kind == kind && x.Id == id })
}

// reaches tells whether a place is within the radius.
func reaches(v api.View, q look, place api.Vec) bool {
	r := uint64(plainKept(q.radius, 1024)) * 65536
	return plainFar(v.Own.At, place) <= r*r
}

// stays tells whether a thing that is not told may be so without being told: it lies beyond the radius, or behind all of as many as are shown.
func stays(v api.View, q look, x api.Seen) bool {
	if !reaches(v, q, x.At) {
		return true
	}
	behind := func(y api.Seen) bool { return !plainAhead(v.Own.At, y, x) }
	return len(v.Seen) == plainKept(q.show, 32) && !slices.ContainsFunc(v.Seen, behind)
}

// untold gives the places in the lists of the cars and shots that a view does not tell of.
func untold(s api.State, v api.View) (cars, shots []int) {
	for i, c := range s.Cars {
		if c.Player != v.Own.Player && !tells(v, api.SeenCar, c.Player) {
			cars = append(cars, i)
		}
	}
	for i, x := range s.Shots {
		if !tells(v, api.SeenShot, x.Id) {
			shots = append(shots, i)
		}
	}
	return cars, shots
}

// P21.4: entities that are not told may not be there: one of them, or none.
func TestUntoldMayBeTakenOut(t *testing.T) {
	times := 3000
	if testing.Short() {
		times = 300
	}
	d := dice(77)
	out := 0
	for range times {
		s, q := d.looks()
		v := asked(t, s, q.player, q.radius, q.show)
		cars, shots := untold(s, v)
		none := twin(s)
		for _, i := range slices.Backward(cars) {
			less := twin(s)
			less.Cars = slices.Delete(less.Cars, i, i+1)
			none.Cars = slices.Delete(none.Cars, i, i+1)
			wantView(t, "a car less", less, q, v)
			out++
		}
		for _, i := range slices.Backward(shots) {
			less := twin(s)
			less.Shots = slices.Delete(less.Shots, i, i+1)
			none.Shots = slices.Delete(none.Shots, i, i+1)
			wantView(t, "a shot less", less, q, v)
			out++
		}
		wantView(t, "none of them", none, q, v)
	}
	if out < times {
		t.Errorf("%d times alone", out)
	}
}

// P21.4: entities that are not told may be anything, anywhere, as long as none of them comes to be told.
func TestUntoldMayBeAnything(t *testing.T) {
	times := 3000
	if testing.Short() {
		times = 300
	}
	d := dice(123)
	beyond, behind := 0, 0
	for range times {
		s, q := d.looks()
		v := asked(t, s, q.player, q.radius, q.show)
		cars, shots := untold(s, v)
		other := twin(s)
		for _, i := range cars {
			c := d.car(s.Cars[i].Player, v.Own.At)
			if c.Wait > 0 || stays(v, q, api.Seen{Kind: api.SeenCar, Id: c.Player, At: c.At}) {
				other.Cars[i] = c
			}
		}
		for _, i := range shots {
			x := d.shot(s.Shots[i].Id, d.number(), v.Own.At)
			if stays(v, q, api.Seen{Kind: api.SeenShot, Id: x.Id, At: x.At}) {
				other.Shots[i] = x
				if reaches(v, q, x.At) {
					behind++
				} else {
					beyond++
				}
			}
		}
		wantView(t, "others of them", other, q, v)
	}
	if beyond < times/2 || behind < times/2 {
		t.Errorf("beyond %d times, behind %d times alone", beyond, behind)
	}
}

// P21.4: more entities may be there, as long as none of them comes to be told.
func TestMoreMayBeThere(t *testing.T) {
	times := 2000
	if testing.Short() {
		times = 200
	}
	d := dice(321)
	for range times {
		s, q := d.looks()
		v := asked(t, s, q.player, q.radius, q.show)
		more := twin(s)
		for i := range 9 {
			c, x := d.car(1000+i, v.Own.At), d.shot(1000*d.of(1, -1)+i, q.player, v.Own.At)
			if c.Wait > 0 || stays(v, q, api.Seen{Kind: api.SeenCar, Id: c.Player, At: c.At}) {
				more.Cars = slices.Insert(more.Cars, d.below(len(more.Cars)+1), c)
			}
			if stays(v, q, api.Seen{Kind: api.SeenShot, Id: x.Id, At: x.At}) && !slices.ContainsFunc(more.Shots, func(y api.Shot) bool { return y.Id == x.Id }) {
				more.Shots = slices.Insert(more.Shots, d.below(len(more.Shots)+1), x)
			}
		}
		// Those of a number that stands ahead of them count nowhere.
		more.Cars = append(more.Cars, d.car(s.Cars[d.below(len(s.Cars))].Player, v.Own.At))
		if len(s.Shots) > 0 {
			more.Shots = append(more.Shots, d.shot(s.Shots[d.below(len(s.Shots))].Id, q.player, v.Own.At))
		}
		wantView(t, "more of them", more, q, v)
	}
}

// wantHidden sets one field of a thing to any numbers or texts: no view but that of the player whom it is of changes (-1: of nobody).
func wantHidden(t *testing.T, d *dice, s api.State, field reflect.Value, of, radius, show int) {
	t.Helper()
	then := field.Interface()
	before := view.All(s, radius, show)
	for range 2 {
		switch field.Kind() {
		case reflect.String:
			field.SetString([]string{"", "eve", "\xff\xfe", "another name"}[d.below(4)])
		default:
			field.SetInt(int64(d.number()))
		}
		behind := view.All(s, radius, show)
		if len(behind) != len(before) {
			t.Fatalf("%d views, then %d", len(before), len(behind))
		}
		for i, v := range before {
			if v.Own.Player == of {
				v.Own = behind[i].Own
			}
			if !same(v, behind[i]) {
				t.Fatalf("what nobody sees changes a view: %+v, then %+v", v, behind[i])
			}
		}
	}
	field.Set(reflect.ValueOf(then))
}

// P21.4: of others' cars nothing but place and heading is seen, of shots nothing but the place; what a state has more is seen by nobody.
func TestWhatNobodySees(t *testing.T) {
	times := 150
	if testing.Short() {
		times = 15
	}
	d := dice(555)
	for range times {
		s := d.fair()
		radius, show := d.of(1, 3, 5, 1024), d.of(2, 5, 32)
		for i := range s.Cars {
			c := reflect.ValueOf(&s.Cars[i]).Elem()
			for _, name := range []string{"Name", "Health", "Energy", "Ammo", "Cool", "Spawns", "Score"} {
				wantHidden(t, &d, s, c.FieldByName(name), s.Cars[i].Player, radius, show)
			}
			for _, name := range []string{"X", "Y"} {
				wantHidden(t, &d, s, c.FieldByName("Speed").FieldByName(name), s.Cars[i].Player, radius, show)
			}
		}
		for i := range s.Shots {
			x := reflect.ValueOf(&s.Shots[i]).Elem()
			for _, f := range []reflect.Value{x.FieldByName("Player"), x.FieldByName("Left"), x.FieldByName("Speed").Field(0), x.FieldByName("Speed").Field(1)} {
				wantHidden(t, &d, s, f, math.MinInt, radius, show)
			}
		}
		wantHidden(t, &d, s, reflect.ValueOf(&s).Elem().FieldByName("Next"), math.MinInt, radius, show)
	}
}

// P21.4: how long a wreck waits is not seen, nor where it lies; a car that is none has many ways to be none.
func TestWaitIsNotSeen(t *testing.T) {
	s := example()
	want := view.All(s, 5, 32)
	for _, wait := range []int{1, 2, 40, math.MaxInt} {
		s.Cars[2].Wait = wait
		for i, v := range view.All(s, 5, 32) {
			if i != 2 && !same(v, want[i]) {
				t.Errorf("Wait %d: %+v, want %+v", wait, v, want[i])
			}
		}
	}
	s = example()
	s.Cars[2].At, s.Cars[2].Heading = units(2, 2), 9
	s.Cars[1].Wait, s.Cars[3].Wait = -1, math.MinInt
	for i, v := range view.All(s, 5, 32) {
		if i != 2 && !slices.Equal(v.Seen, want[i].Seen) {
			t.Errorf("%+v, want %+v", v, want[i])
		}
	}
}

// P21.4: own shots are seen like others: whose a shot is changes nothing.
func TestOwnShotsAreSeen(t *testing.T) {
	s := example()
	for _, player := range []int{0, 1, 2, 3, 4, -1, math.MaxInt} {
		for i := range s.Shots {
			s.Shots[i].Player = player
		}
		wantSeen(t, s, 0, 5, 32, "c1 c3 s4 s7")
		wantSeen(t, s, 0, 5, 2, "c1 s7")
		wantSeen(t, s, 3, 5, 2, "c1 s4")
	}
}

// has tells whether a list has all of another one, in its order.
func has(list, part []api.Seen) bool {
	for _, x := range list {
		if len(part) > 0 && x == part[0] {
			part = part[1:]
		}
	}
	return len(part) == 0
}

// P21.5: a view has at most show things; with a greater show it has all that it had, with a greater radius too, as long as all have room.
func TestGreaterShowAndRadius(t *testing.T) {
	times := 1500
	if testing.Short() {
		times = 150
	}
	d := dice(99)
	more, wider, full := 0, 0, 0
	for range times {
		s := d.state()
		if len(s.Cars) == 0 {
			continue
		}
		own := s.Cars[d.below(len(s.Cars))].Player
		radius, show := d.radius(), d.show()
		v := asked(t, s, own, radius, show)
		if len(v.Seen) > max(0, show) || len(v.Seen) > api.MaxShow {
			t.Fatalf("Of(%+v, %d, %d, %d): %d are seen", s, own, radius, show, len(v.Seen))
		}
		for _, by := range []int{1, 2, 7, 40} {
			if show < math.MaxInt-by {
				w := asked(t, s, own, radius, show+by)
				if !has(w.Seen, v.Seen) {
					t.Fatalf("Of(%+v, %d, %d): show %d %+v, show %d %+v", s, own, radius, show, v.Seen, show+by, w.Seen)
				}
				more += len(w.Seen) - len(v.Seen)
			}
			if radius < math.MaxInt-by {
				w := asked(t, s, own, radius+by, show)
				if len(plainNear(s, v.Own, radius+by)) > plainKept(show, 32) {
					full++
					continue
				}
				if !has(w.Seen, v.Seen) {
					t.Fatalf("Of(%+v, %d, .., %d): radius %d %+v, radius %d %+v", s, own, show, radius, v.Seen, radius+by, w.Seen)
				}
				wider += len(w.Seen) - len(v.Seen)
			}
		}
	}
	if more < times || wider < times/4 || full < times/4 {
		t.Errorf("more %d, wider %d, full %d alone", more, wider, full)
	}
}
