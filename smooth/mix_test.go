package smooth_test

import (
	"math"
	"testing"

	"joust/api"
	"joust/smooth"
)

// P25.2: the chapter's examples and hard places, worked out by hand.
func TestMix(t *testing.T) {
	a, b := at(0, 0, 350), at(4, 8, 10)
	for _, c := range []struct {
		a, b api.Place
		t    float32
		want api.Place
	}{
		{a, b, 0.5, at(2, 4, 0)}, {at(0, 0, 10), at(4, 8, 350), 0.25, at(1, 2, 5)},
		{a, b, -1, a}, {a, b, 7, b}, {a, b, nan, a},
		{at(0, 0, 0), at(0, 0, 180), 0.5, at(0, 0, 90)}, {at(0, 0, 180), at(0, 0, 0), 0.5, at(0, 0, 90)},
		{a, b, 0, a}, {a, b, minus, a}, {a, b, -tiny, a}, {a, b, -inf, a}, {a, b, 1, b}, {a, b, next(1), b}, {a, b, inf, b},
		{a, b, tiny, at(tiny*4, tiny*8, 350)}, {a, b, 0.25, at(1, 2, 355)}, {a, b, 0.75, at(3, 6, 5)},
		{b, a, 0.5, at(2, 4, 0)}, {b, a, 0.75, at(1, 2, 355)},
		{at(-1, 1, 20), at(1, -1, 30), 0.5, at(0, 0, 25)}, {at(3, 3, 30), at(3, 3, 20), 0.25, at(3, 3, 27.5)},
	} {
		if p := smooth.Mix(c.a, c.b, c.t); !same(p, c.want) {
			t.Errorf("Mix(%v, %v, %v) = %v, want %v", c.a, c.b, c.t, p, c.want)
		}
	}
}

// P25.2: differences of just 180 and -180 go as they are; a bit more goes the other way.
func TestMixHalfTurn(t *testing.T) {
	for _, c := range []struct{ a, b, t, want float32 }{
		{10, 190, 0.5, 100}, {190, 10, 0.5, 100}, {0, 180, 0.25, 45}, {180, 0, 0.25, 135}, {359, 179, 0.5, 269}, {179, 359, 0.5, 269},
		{10, prev(190), 0.5, 99.99999}, {10, next(190), 0.5, 280}, {next(190), 10, 0.5, 280}, {prev(190), 10, 0.5, 99.99999},
		{0, prev(180), 0.25, 44.999996}, {0, next(180), 0.25, 315}, {prev(180), 0, 0.25, 134.99998}, {next(180), 0, 0.25, 225.00002},
		{-90, 90, 0.5, 0}, {90, -90, 0.5, 0}, {-180, 0, 0.5, 270}, {0, -180, 0.5, 270}, {0, 181, 0.5, 270.5}, {181, 0, 0.5, 270.5},
	} {
		p := smooth.Mix(at(1, 1, c.a), at(1, 1, c.b), c.t)
		if !same(p, at(1, 1, c.want)) || !same(p, plainMix(at(1, 1, c.a), at(1, 1, c.b), c.t)) {
			t.Errorf("from %v to %v at %v: %v, want %v", c.a, c.b, c.t, p.Angle, c.want)
		}
	}
}

// P25.2: angles that pass 360 or 0, come to just 360, or lie so little below 0 that 360 more are 360; angles outside the turn are answered as they come out.
func TestMixPassesTheTurn(t *testing.T) {
	for _, c := range []struct{ a, b, t, want float32 }{
		{350, 10, 0.5, 0}, {350, 20, 0.5, 5}, {10, 350, 0.5, 0}, {20, 350, 0.5, 5}, {350, 0, 0.5, 355}, {0, 350, 0.5, 355}, {270, 0, 0.5, 315}, {0, 270, 0.5, 315},
		{prev(360), 2, 0.25, 0.5 - 1.0/32768}, {359, 1, 0.5, 0}, {1, 359, 0.5, 0}, {1, 359, next(0.5), 0}, {1, 359, next(next(0.51)), 359.97998},
		{1e-30, prev(360), 0.25, 0}, {0, prev(360), 0.25, 0}, {0, prev(360), 0.5, 0}, {0, prev(360), 0.75, prev(360)}, {tiny, 359, 1e-10, 0}, {0, 359, 1e-7, 0}, {0, 359, 1e-4, 359.9999},
		{400, 400, 0.5, 40}, {720, 720, 0.5, 360}, {800, 800, 0.5, 440}, {-10, -10, 0.5, 350}, {-400, -400, 0.5, -40}, {0, 720, 0.5, 180}, {0, -720, 0.5, 180},
		{360, 360, 0.5, 0}, {360, 0, 0.5, 0}, {-1e-30, -1e-30, 0.5, 0}, {1e10, 1e10, 0.5, 1e10}, {-1e10, -1e10, 0.5, -1e10}, {minus, minus, 0.5, 0},
	} {
		p, plain := smooth.Mix(at(0, 0, c.a), at(0, 0, c.b), c.t), plainMix(at(0, 0, c.a), at(0, 0, c.b), c.t)
		if math.Abs(float64(p.Angle-c.want)) > 1e-4 || !same(p, plain) {
			t.Errorf("from %v to %v at %v: %v, want %v (plain: %v)", c.a, c.b, c.t, p.Angle, c.want, plain.Angle)
		}
	}
}

// P25.2: infinities make what is no number, and that is answered; at 0 and 1 the places are handed on whole.
func TestMixInfinities(t *testing.T) {
	wild := at(nan, -inf, inf)
	for _, c := range []struct {
		a, b api.Place
		t    float32
		want api.Place
	}{
		{wild, at(1, 2, 3), 0, wild}, {wild, at(1, 2, 3), nan, wild}, {at(1, 2, 3), wild, 1, wild}, {at(1, 2, 3), wild, inf, wild},
		{wild, at(1, 2, 3), 1, at(1, 2, 3)}, {at(1, 2, 3), wild, 0, at(1, 2, 3)}, {wild, at(1, 2, 3), -1, wild}, {at(1, 2, 3), wild, 2, wild},
		{at(inf, -inf, 0), at(inf, -inf, 0), 0.5, at(nan, nan, 0)}, {at(1, 1, 0), at(inf, -inf, 0), 0.5, at(inf, -inf, 0)}, {at(inf, -inf, 0), at(1, 1, 0), 0.5, at(nan, nan, 0)},
		{at(nan, 1, 0), at(4, 8, 10), 0.5, at(nan, 4.5, 5)}, {at(1, nan, 0), at(4, 8, 10), 0.5, at(2.5, nan, 5)}, {at(1, 1, nan), at(4, 8, 10), 0.5, at(2.5, 4.5, nan)},
		{at(4, 8, 10), at(nan, 1, 0), 0.5, at(nan, 4.5, 5)}, {at(4, 8, 10), at(1, 1, nan), 0.5, at(2.5, 4.5, nan)},
		{at(0, 0, 0), at(0, 0, inf), 0.5, at(0, 0, inf)}, {at(0, 0, 0), at(0, 0, -inf), 0.5, at(0, 0, -inf)}, {at(0, 0, inf), at(0, 0, 0), 0.5, at(0, 0, nan)}, {at(0, 0, inf), at(0, 0, inf), 0.5, at(0, 0, nan)},
		{at(-great, great, 0), at(great, -great, 0), 0.5, at(inf, -inf, 0)}, {at(great, -great, great), at(great, -great, great), 0.5, at(great, -great, great)},
	} {
		if p := smooth.Mix(c.a, c.b, c.t); !same(p, c.want) {
			t.Errorf("Mix(%v, %v, %v) = %v, want %v", c.a, c.b, c.t, p, c.want)
		}
	}
}

// P25.2: all pairs of the numbers of floats at all times of shares, against the plain reading.
func TestMixPlain(t *testing.T) {
	list := floats()
	for i, x := range list {
		for k, y := range list {
			// Neither part hangs on another: each has numbers of its own.
			a := at(x, list[(i+5)%len(list)], list[(i+11)%len(list)])
			b := at(y, list[(k+7)%len(list)], list[(k+13)%len(list)])
			for _, s := range shares() {
				if p, want := smooth.Mix(a, b, s), plainMix(a, b, s); !same(p, want) {
					t.Fatalf("Mix(%v, %v, %v) = %v, want %v", a, b, s, p, want)
				}
			}
		}
	}
}

// P25.2: any places and times, against the plain reading.
func TestMixAny(t *testing.T) {
	d := dice(2)
	for range 300000 {
		a, b := at(d.float(), float32(d.raw()), d.float()), at(d.float(), float32(d.raw()), d.float())
		if d.below(3) > 0 {
			a.Angle, b.Angle = d.angle(), d.angle()
		}
		s := d.share()
		if p, want := smooth.Mix(a, b, s), plainMix(a, b, s); !same(p, want) {
			t.Fatalf("Mix(%v, %v, %v) = %v, want %v", a, b, s, p, want)
		}
	}
}

// P25.2, P25.4: each product is rounded ahead of the sum: numbers where a fused or a wider sum is another one.
func TestProductsAreRounded(t *testing.T) {
	d := dice(3)
	for tried, found := 0, 0; found < 1000; tried++ {
		if tried > 1000000 {
			t.Fatalf("only %d numbers where it matters", found)
		}
		x, y, s := d.angle(), d.angle(), d.share()
		fused := float32(math.FMA(float64(difference(y, x)), float64(s), float64(x)))
		want := sum(x, product(difference(y, x), s))
		if fused == want || !(s > 0 && s < 1) {
			continue
		}
		found++
		if p := smooth.Mix(at(x, x, 0), at(y, y, 0), s); p.X != want || p.Y != want {
			t.Fatalf("Mix from %v to %v at %v = %v, want %v", x, y, s, p, want)
		}
	}
}
