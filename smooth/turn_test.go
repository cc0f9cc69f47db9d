package smooth_test

import (
	"math"
	"testing"

	"joust/api"
	"joust/smooth"
)

// angles gives some from 0 to below 360: all headings', and those about the ends, a quarter, a half.
func angles() []float32 {
	list := []float32{tiny, 1e-40, 1e-30, 1e-10, 1e-5, 0.1, prev(prev(360)), prev(360), 359.9}
	for h := range 256 {
		list = append(list, float32(h)*1.40625)
	}
	for _, f := range []float32{10, 90, 180, 190, 270, 350} {
		list = append(list, prev(f), next(f))
	}
	return list
}

// turned is how far it is from one angle to another, exactly enough, from -180 to 180.
func turned(from, to float32) float64 {
	d := math.Mod(float64(to)-float64(from), 360)
	if d > 180 {
		return d - 360
	}
	if d < -180 {
		return d + 360
	}
	return d
}

// wantTurn asks P25.6 of a way between two angles: the range, and the shorter way.
func wantTurn(t *testing.T, a, b, s float32) {
	t.Helper()
	w := smooth.Mix(at(0, 0, a), at(0, 0, b), s).Angle
	if !(w >= 0 && w < 360) {
		t.Fatalf("from %v to %v at %v: the angle %v", a, b, s, w)
	}
	way, part := turned(a, b), float64(s)
	if !(part > 0) {
		part = 0
	}
	// At a half turn both ways are equally short.
	off := math.Abs(turned(a, w) - way*min(part, 1))
	if math.Abs(way) > 179.999 {
		off = math.Min(off, math.Abs(turned(a, w)+way*min(part, 1)))
	}
	if off = math.Min(off, 360-off); off > 1e-4 {
		t.Fatalf("from %v to %v at %v: to %v, which is %v off", a, b, s, w, off)
	}
}

// P25.6: the angle stays from 0 to below 360, and turns the shorter way.
func TestTurns(t *testing.T) {
	for _, a := range angles() {
		for _, b := range angles() {
			for _, s := range shares() {
				wantTurn(t, a, b, s)
			}
		}
	}
	d := dice(6)
	for range 200000 {
		wantTurn(t, d.angle(), d.angle(), d.share())
	}
}

// P25.6: a place with itself is that place, at every time.
func TestMixWithItself(t *testing.T) {
	var places []api.Place
	for _, f := range floats() {
		if f-f != 0 { // infinite, or no number
			continue
		}
		for _, angle := range []float32{0, tiny, 1, 180, prev(360)} {
			places = append(places, at(f, -f, angle), at(1, f, angle))
		}
	}
	for _, angle := range angles() {
		places = append(places, at(3, -4, angle))
	}
	d := dice(8)
	for range 500 {
		places = append(places, smooth.Of(d.vec(), int(d.raw())))
	}
	for _, p := range places {
		for _, s := range shares() {
			if m := smooth.Mix(p, p, s); m != p {
				t.Fatalf("Mix(%v, %v, %v) = %v", p, p, s, m)
			}
		}
	}
}

// P25.6: a view with itself shows the own car, if it is no wreck, and each thing where Of shows it, at every time.
func TestBetweenWithItself(t *testing.T) {
	d := dice(9)
	for range 1500 {
		v := d.view()
		v.Seen = nil
		for kind := range 3 {
			for _, id := range []int{3, -1, 0, 7, math.MaxInt, math.MinInt} {
				if d.below(2) == 0 {
					v.Seen = append(v.Seen, api.Seen{Kind: kind, Id: id, At: d.vec(), Heading: int(d.raw())})
				}
			}
		}
		var want []api.Place
		if v.Own.Wait <= 0 {
			want = append(want, smooth.Of(v.Own.At, v.Own.Heading))
		}
		for _, s := range v.Seen {
			want = append(want, smooth.Of(s.At, s.Heading))
		}
		for _, s := range shares() {
			if l := smooth.Between(v, v, s); !allSame(l, want) {
				t.Fatalf("Between of %v with itself at %v: %v, want %v", v, s, l, want)
			}
		}
	}
}
