package vec_test

import (
	"testing"

	"joust/api"
	"joust/vec"
)

// size is how far a part, kept within reach, lies from 0.
func size(x int64) int64 {
	x = within(whole(x), reach)
	if x < 0 {
		return -x
	}
	return x
}

// 13.10, R1: both ways alike; a place and itself; lengths between the greater part and both; what is made lies within the bounds.
func TestPlacesFollow(t *testing.T) {
	pairs(func(a, b api.Vec) {
		if vec.Dist2(a, b) != vec.Dist2(b, a) || vec.Dist2(a, b) < 0 || vec.Dist2(a, a) != 0 {
			t.Fatalf("Dist2 of %v and %v: %d, %d; itself %d", a, b, vec.Dist2(a, b), vec.Dist2(b, a), vec.Dist2(a, a))
		}
		for _, r := range []int64{a.X, b.Y, vec.Len(vec.Sub(a, b)), reach} {
			if vec.Within(a, b, r) != vec.Within(b, a, r) {
				t.Fatalf("Within(%v, %v, %d) is not the same both ways", a, b, r)
			}
			if vec.Within(a, a, r) != (r >= 0) {
				t.Fatalf("Within(%v, itself, %d) = %v", a, r, vec.Within(a, a, r))
			}
		}
		if n := vec.Len(a); n > size(a.X)+size(a.Y) || n < max(size(a.X), size(a.Y)) {
			t.Fatalf("Len(%v) = %d", a, n)
		}
		for _, v := range []api.Vec{vec.Add(a, b), vec.Sub(a, b), vec.Scale(a, b.Y), vec.Cap(a, b.Y)} {
			if max(v.X, v.Y) > api.Max || min(v.X, v.Y) < -api.Max {
				t.Fatalf("of %v and %v: %v is beyond the bounds", a, b, v)
			}
		}
	})
}

// 13.10: turning twice is turning by both, if these can be added; a half turn takes the opposite, a quarter turn lays X along Y.
func TestHeadingsFollow(t *testing.T) {
	list := headings()
	for i, h := range list {
		for _, a := range list {
			b := list[(i*7+3)%len(list)]
			if !sum(int64(a), int64(b)).IsInt64() {
				continue
			}
			if twice, once := vec.Turn(vec.Turn(h, a), b), vec.Turn(h, a+b); twice != once {
				t.Fatalf("Turn(%d) by %d, by %d: %d, by both %d", h, a, b, twice, once)
			}
		}
		u := vec.Unit(h)
		if back := vec.Unit(h + 128); back != at(-u.X, -u.Y) {
			t.Errorf("Unit(%d + 128) = %v, Unit(%d) = %v", h, back, h, u)
		}
		if left := vec.Unit(h + 64); left != at(-u.Y, u.X) {
			t.Errorf("Unit(%d + 64) = %v, Unit(%d) = %v", h, left, h, u)
		}
	}
}

// 13.10: a heading's unit lies toward that heading, wherever it is looked from.
func TestTowardUnit(t *testing.T) {
	places := []api.Vec{at(0, 0), at(9, -9), at(-api.Max, api.Max-api.One), at(api.Max-api.One, -api.Max), at(5<<20, 7<<20)}
	for _, h := range headings() {
		for _, a := range places {
			b := vec.Add(a, vec.Unit(h))
			if at(b.X-a.X, b.Y-a.Y) != vec.Unit(h) {
				continue // a bound was met
			}
			if got, want := vec.Toward(a, b), vec.Turn(h, 0); got != want {
				t.Fatalf("Toward(%v, and the unit of %d) = %d", a, h, got)
			}
		}
	}
}

// 13.10: back is a half turn from there, where one heading alone is best.
func TestTowardBack(t *testing.T) {
	times := 1500
	if testing.Short() {
		times = 100
	}
	d := dice(987654321)
	for range times {
		a, b := d.place(), d.place()
		if len(bests(a, b)) > 1 {
			continue
		}
		if there, back := vec.Toward(a, b), vec.Toward(b, a); back != vec.Turn(there, 128) {
			t.Fatalf("Toward(%v, %v) = %d, back %d", a, b, there, back)
		}
	}
}
