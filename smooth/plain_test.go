package smooth_test

import (
	"math"
	"math/big"
	"testing"

	"joust/api"
	"joust/fix"
)

var (
	nan   = float32(math.NaN())
	inf   = float32(math.Inf(1))
	minus = float32(math.Copysign(0, -1)) // 0 below 0
)

const (
	tiny  = math.SmallestNonzeroFloat32
	great = math.MaxFloat32
)

func next(f float32) float32 { return math.Nextafter32(f, inf) }

func prev(f float32) float32 { return math.Nextafter32(f, -inf) }

// The chapter's operations, each rounded by itself. A float64 holds a product of two float32 exactly, and of their sum so many digits that to round it once more makes no difference (TestPlainIsExact).
func sum(a, b float32) float32        { return float32(float64(a) + float64(b)) }
func difference(a, b float32) float32 { return float32(float64(a) - float64(b)) }
func product(a, b float32) float32    { return float32(float64(a) * float64(b)) }

// quotient by n, which is above 0: exactly, because a float64's digits would not do for all.
func quotient(a float32, n int) float32 {
	if a == 0 || a != a || math.IsInf(float64(a), 0) {
		return a
	}
	count := float32(n)
	exact := new(big.Rat).Quo(new(big.Rat).SetFloat64(float64(a)), new(big.Rat).SetFloat64(float64(count)))
	f, _ := exact.Float32()
	return f
}

// P25.1, as it stands there; the modulo by division.
func plainOf(at api.Vec, heading int) api.Place {
	rest := heading % 256
	if rest < 0 {
		rest += 256
	}
	return api.Place{X: fix.Float(at.X), Y: fix.Float(at.Y), Angle: product(float32(rest), 1.40625)}
}

// P25.2, as it stands there.
func plainMix(a, b api.Place, t float32) api.Place {
	if t > 0 {
	} else {
		t = 0
	}
	if t > 1 {
		t = 1
	}
	if t == 0 {
		return a
	}
	if t == 1 {
		return b
	}
	var p api.Place
	p.X = sum(a.X, product(difference(b.X, a.X), t))
	p.Y = sum(a.Y, product(difference(b.Y, a.Y), t))
	d := difference(b.Angle, a.Angle)
	if d > 180 {
		d = difference(d, 360)
	} else if d < -180 {
		d = sum(d, 360)
	}
	w := sum(a.Angle, product(d, t))
	if w >= 360 {
		w = difference(w, 360)
	}
	if w < 0 {
		if sum(w, 360) >= 360 {
			w = 0
		} else {
			w = sum(w, 360)
		}
	}
	p.Angle = w
	return p
}

// P25.3, as it stands there: all by all.
func plainBetween(a, b api.View, t float32) []api.Place {
	var l []api.Place
	if a.Own.Player == b.Own.Player && !(a.Own.Wait > 0 || b.Own.Wait > 0) {
		l = append(l, plainMix(plainOf(a.Own.At, a.Own.Heading), plainOf(b.Own.At, b.Own.Heading), t))
	}
	for _, x := range a.Seen {
		for _, y := range b.Seen {
			if x.Kind == y.Kind && x.Id == y.Id {
				l = append(l, plainMix(plainOf(x.At, x.Heading), plainOf(y.At, y.Heading), t))
				break
			}
		}
	}
	return l
}

// P25.4, as it stands there.
func plainAhead(c api.Car, ticks float32) api.Place {
	if ticks > 0 && c.Wait <= 0 {
		if ticks > 32 {
			ticks = 32
		}
	} else {
		ticks = 0
	}
	return api.Place{
		X:     sum(fix.Float(c.At.X), product(fix.Float(c.Speed.X), ticks)),
		Y:     sum(fix.Float(c.At.Y), product(fix.Float(c.Speed.Y), ticks)),
		Angle: plainOf(c.At, c.Heading).Angle,
	}
}

// P25.5, as it stands there.
func plainMean(l []float32) float32 {
	if len(l) == 0 {
		return 0
	}
	var all float32
	for _, x := range l {
		all = sum(all, x)
	}
	return quotient(all, len(l))
}

// alike: the same number, bit by bit; all that is no number is one thing.
func alike(a, b float32) bool {
	return a != a && b != b || math.Float32bits(a) == math.Float32bits(b)
}

func same(a, b api.Place) bool {
	return alike(a.X, b.X) && alike(a.Y, b.Y) && alike(a.Angle, b.Angle)
}

func allSame(a, b []api.Place) bool {
	if len(a) != len(b) {
		return false
	}
	for i := range a {
		if !same(a[i], b[i]) {
			return false
		}
	}
	return true
}

// floats gives those at and about 0, 180, 360, the ends of float32, infinities, what is no number; on both sides of 0; and some of any size.
func floats() []float32 {
	list := []float32{nan, math.Float32frombits(0xffc00001), inf}
	for _, f := range []float32{0, 1, 90, 180, 270, 360, 540, 720, 0.25, 10, 350, 16777216, great} {
		list = append(list, prev(f), f, next(f))
	}
	list = append(list, tiny*3, 1e-40, 1.17549435e-38, 1e-30, 1e-10, 1.0/3, 33.3, 1234.567, 1e10, 1e30, great/2)
	for _, f := range list {
		list = append(list, -f)
	}
	d := dice(7)
	for range 12 {
		list = append(list, d.float())
	}
	return list
}

// shares gives times of all kinds: of no number, below 0, both zeros, just above 0, between, about 1, beyond it.
func shares() []float32 {
	list := []float32{nan, math.Float32frombits(0x7f800001), -inf, -7, -1, -tiny, minus, 0, tiny, 1e-40, 1e-30, 1e-7, 0.01, 0.1, 0.25, 1.0 / 3, prev(0.5), 0.5, next(0.5), 2.0 / 3, 0.75, 0.9, 0.99, prev(prev(1)), prev(1), 1, next(1), 1.5, 2, 7, great, inf}
	d := dice(11)
	for range 8 {
		list = append(list, float32(d.number()>>40)/(1<<24))
	}
	return list
}

// The plain reading's sums, differences and products are the exact ones, rounded once.
func TestPlainIsExact(t *testing.T) {
	exact := func(f float32) *big.Rat { return new(big.Rat).SetFloat64(float64(f)) }
	rounded := func(r *big.Rat) float32 { f, _ := r.Float32(); return f }
	for _, a := range floats() {
		for _, b := range floats() {
			if a-a != 0 || b-b != 0 { // infinite, or no number
				continue
			}
			x, y := exact(a), exact(b)
			if f, want := sum(a, b), rounded(new(big.Rat).Add(x, y)); f != want {
				t.Fatalf("sum(%v, %v) = %v, want %v", a, b, f, want)
			}
			if f, want := difference(a, b), rounded(new(big.Rat).Sub(x, y)); f != want {
				t.Fatalf("difference(%v, %v) = %v, want %v", a, b, f, want)
			}
			if f, want := product(a, b), rounded(new(big.Rat).Mul(x, y)); f != want {
				t.Fatalf("product(%v, %v) = %v, want %v", a, b, f, want)
			}
		}
	}
}
