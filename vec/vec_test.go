package vec_test

import (
	"math"
	"math/big"
	"testing"

	"joust/api"
	"joust/vec"
)

const (
	least    = math.MinInt64
	greatest = math.MaxInt64
	reach    = 1<<31 - 1 // within which differences are kept for distances
)

func at(x, y int64) api.Vec { return api.Vec{X: x, Y: y} }

func whole(x int64) *big.Int { return big.NewInt(x) }

// within is a whole number of any size, kept within m.
func within(x *big.Int, m int64) int64 {
	if x.CmpAbs(whole(m)) > 0 {
		return int64(x.Sign()) * m
	}
	return x.Int64()
}

func sum(a, b int64) *big.Int { return new(big.Int).Add(whole(a), whole(b)) }

func difference(a, b int64) *big.Int { return new(big.Int).Sub(whole(a), whole(b)) }

func product(a, b int64) *big.Int { return new(big.Int).Mul(whole(a), whole(b)) }

// dice gives numbers that follow no rule a program could be after, the same ones always.
type dice uint64

func (d *dice) next() int64 {
	x := uint64(*d)
	x ^= x << 13
	x ^= x >> 7
	x ^= x << 17
	*d = dice(x)
	return int64(x)
}

// sized gives a number of any size.
func (d *dice) sized() int64 { return d.next() >> (uint64(d.next()) % 64) }

func (d *dice) place() api.Vec { return at(d.sized(), d.sized()) }

// parts gives those at and about 0, every power of two (api.Max and 2^31 among them), both ends of int64, on both sides of 0, and some of any size between.
func parts() []int64 {
	list := []int64{0, least, least + 1, least + 2, greatest, greatest - 1, greatest - 2, 3, 7, 98304, -98304, 163840, api.Max + api.One, -api.Max - api.One}
	for i := range 63 {
		for d := int64(-2); d <= 2; d++ {
			list = append(list, int64(1)<<i+d, -(int64(1)<<i)+d)
		}
	}
	d := dice(88172645463325252)
	for range 60 {
		list = append(list, d.sized())
	}
	return list
}

// pairs calls f with every pair of parts as X and another one as Y, so that a call which mixes up the two is found out.
func pairs(f func(a, b api.Vec)) {
	list := parts()
	n := len(list)
	for i, x := range list {
		for j, other := range list {
			f(at(x, list[(j+5)%n]), at(other, list[(i+11)%n]))
		}
	}
}

func wantVec(t *testing.T, what string, got, want api.Vec) {
	t.Helper()
	if got != want {
		t.Fatalf("%s = %v, want %v", what, got, want)
	}
}

// 13.1: the chapter's examples and hard places, and sums at both bounds.
func TestAddSubExamples(t *testing.T) {
	for _, c := range []struct{ a, b, sum, less api.Vec }{
		{at(1, 2), at(3, -5), at(4, -3), at(-2, 7)},
		{at(1<<40, 0), at(1, -1), at(1<<40, -1), at(1<<40-1, 1)},
		{at(0, 0), at(least, 1), at(-api.Max, 1), at(1<<40, -1)},
		{at(0, 0), at(0, 0), at(0, 0), at(0, 0)},
		{at(5, 5), at(5, 7), at(10, 12), at(0, -2)},
		{at(api.Max-1, 1-api.Max), at(1, -1), at(api.Max, -api.Max), at(api.Max-2, 2-api.Max)},
		{at(api.Max, -api.Max), at(1, -1), at(api.Max, -api.Max), at(api.Max-1, 1-api.Max)},
		{at(api.Max, -api.Max), at(-1, 1), at(api.Max-1, 1-api.Max), at(api.Max, -api.Max)},
		{at(api.Max-1, 1-api.Max), at(-1, 1), at(api.Max-2, 2-api.Max), at(api.Max, -api.Max)},
		{at(greatest, least), at(greatest, least), at(api.Max, -api.Max), at(0, 0)},
		{at(greatest, least), at(least, greatest), at(-1, -1), at(api.Max, -api.Max)},
		{at(least, least), at(least, 0), at(-api.Max, -api.Max), at(0, -api.Max)},
		{at(least, -1), at(1, least), at(-api.Max, -api.Max), at(-api.Max, api.Max)},
		{at(least, least), at(least+5, least+5), at(-api.Max, -api.Max), at(-5, -5)},
	} {
		if got := vec.Add(c.a, c.b); got != c.sum {
			t.Errorf("Add(%v, %v) = %v, want %v", c.a, c.b, got, c.sum)
		}
		if got := vec.Sub(c.a, c.b); got != c.less {
			t.Errorf("Sub(%v, %v) = %v, want %v", c.a, c.b, got, c.less)
		}
	}
}

// 13.2: the chapter's example; rounded down on both sides of 0; the bounds.
func TestScaleExamples(t *testing.T) {
	for _, c := range []struct {
		a    api.Vec
		k    int64
		want api.Vec
	}{
		{at(65536, -3), 32768, at(32768, -2)},
		{at(1, -1), 1, at(0, -1)},
		{at(-65536, 65536), -65536, at(65536, -65536)},
		{at(9, -9), 0, at(0, 0)},
		{at(9, -9), api.One, at(9, -9)},
		{at(1<<40, 1), 1 << 40, at(api.Max, 1<<24)},
		{at(-1<<40, 1<<40), 1 << 40, at(-api.Max, api.Max)},
		{at(least, greatest), least, at(api.Max, -api.Max)},
		{at(least, greatest), api.One, at(-api.Max, api.Max)},
	} {
		if got := vec.Scale(c.a, c.k); got != c.want {
			t.Errorf("Scale(%v, %d) = %v, want %v", c.a, c.k, got, c.want)
		}
	}
}

// 13.3: the chapter's examples and hard places, and max at, below and above its own bounds.
func TestCapExamples(t *testing.T) {
	for _, c := range []struct {
		a    api.Vec
		max  int64
		want api.Vec
	}{
		{at(5, -9), 4, at(4, -4)},
		{at(5, -9), -1, at(0, 0)},
		{at(5, -9), least, at(0, 0)},
		{at(least, greatest), least, at(0, 0)},
		{at(5, -9), 0, at(0, 0)},
		{at(5, -9), 1, at(1, -1)},
		{at(5, -9), 5, at(5, -5)},
		{at(-5, 9), 8, at(-5, 8)},
		{at(5, -9), 9, at(5, -9)},
		{at(5, -9), greatest, at(5, -9)},
		{at(greatest, least), 1 << 62, at(api.Max, -api.Max)},
		{at(greatest, least), api.Max, at(api.Max, -api.Max)},
		{at(greatest, least), api.Max + 1, at(api.Max, -api.Max)},
		{at(greatest, least), api.Max - 1, at(api.Max-1, 1-api.Max)},
		{at(api.Max+1, -api.Max-1), greatest, at(api.Max, -api.Max)},
		{at(least, 1), api.One, at(-api.One, 1)},
	} {
		if got := vec.Cap(c.a, c.max); got != c.want {
			t.Errorf("Cap(%v, %d) = %v, want %v", c.a, c.max, got, c.want)
		}
	}
}

// 13.1: every pair of parts, against sums and differences of whole numbers.
func TestAddSubExactly(t *testing.T) {
	pairs(func(a, b api.Vec) {
		wantVec(t, "Add", vec.Add(a, b), at(within(sum(a.X, b.X), api.Max), within(sum(a.Y, b.Y), api.Max)))
		wantVec(t, "Sub", vec.Sub(a, b), at(within(difference(a.X, b.X), api.Max), within(difference(a.Y, b.Y), api.Max)))
	})
}

// 13.2, 13.3: every part with every number, against products of whole numbers, rounded down, and whole numbers kept within.
func TestScaleCapExactly(t *testing.T) {
	scaled := func(x, k int64) int64 {
		return within(new(big.Int).Rsh(product(x, k), 16), api.Max)
	}
	pairs(func(a, b api.Vec) {
		k := b.X
		wantVec(t, "Scale", vec.Scale(a, k), at(scaled(a.X, k), scaled(a.Y, k)))
		m := k
		if m < 0 {
			m = 0
		} else if m > api.Max {
			m = api.Max
		}
		wantVec(t, "Cap", vec.Cap(a, k), at(within(whole(a.X), m), within(whole(a.Y), m)))
	})
}
