package vec_test

import (
	"math"
	"math/big"
	"testing"

	"joust/api"
	"joust/fix"
	"joust/vec"
)

// turned is a whole number modulo 256, from 0 to 255.
func turned(x *big.Int) int { return int(new(big.Int).Mod(x, whole(256)).Int64()) }

// headings gives ints of which each of 0 to 255 is meant, once and many times round, and both ends.
func headings() []int {
	list := []int{math.MinInt, math.MinInt + 1, math.MaxInt, math.MaxInt - 1, math.MinInt32, math.MaxInt32}
	for h := -520; h <= 520; h++ {
		list = append(list, h)
	}
	d := dice(362436069)
	for range 200 {
		list = append(list, int(d.sized()))
	}
	return list
}

// bests gives all headings that lead farthest toward b, asked one by one, reckoned exactly.
func bests(a, b api.Vec) []int {
	dx, dy := apart(b.X, a.X), apart(b.Y, a.Y)
	var list []int
	var most *big.Int
	for h := range 256 {
		n := new(big.Int).Add(product(fix.Cos(h), dx), product(fix.Sin(h), dy))
		if most == nil || n.Cmp(most) > 0 {
			list, most = nil, n
		}
		if n.Cmp(most) == 0 {
			list = append(list, h)
		}
	}
	return list
}

func wantToward(t *testing.T, a, b api.Vec) {
	t.Helper()
	if got, want := vec.Toward(a, b), bests(a, b)[0]; got != want {
		t.Fatalf("Toward(%v, %v) = %d, want %d", a, b, got, want)
	}
}

// 13.6: the chapter's examples and hard places.
func TestTurnExamples(t *testing.T) {
	for _, c := range [][3]int{
		{250, 10, 4}, {-1, 0, 255}, {math.MaxInt, 1, 0}, {0, -1, 255}, {0, 0, 0}, {255, 1, 0}, {255, 255, 254}, {256, 0, 0}, {0, 256, 0}, {0, -256, 0}, {5, -8, 253},
		{math.MinInt, 0, 0}, {math.MinInt, -1, 255}, {math.MinInt, math.MinInt, 0}, {math.MaxInt, 0, 255}, {math.MaxInt, math.MaxInt, 254}, {math.MinInt, math.MaxInt, 255},
	} {
		if got := vec.Turn(c[0], c[1]); got != c[2] {
			t.Errorf("Turn(%d, %d) = %d, want %d", c[0], c[1], got, c[2])
		}
	}
}

// 13.6: any two ints, against the exact sum modulo 256.
func TestTurnExactly(t *testing.T) {
	list := headings()
	for _, h := range list {
		for _, by := range list {
			if got, want := vec.Turn(h, by), turned(sum(int64(h), int64(by))); got != want {
				t.Fatalf("Turn(%d, %d) = %d, want %d", h, by, got, want)
			}
		}
	}
}

// 13.7: the chapter's examples, headings between them, and round and round.
func TestUnit(t *testing.T) {
	for h, want := range map[int]api.Vec{
		0: at(65536, 0), 64: at(0, 65536), 128: at(-65536, 0), 192: at(0, -65536), 256: at(65536, 0), -64: at(0, -65536), -256: at(65536, 0),
		1: at(65516, 1608), 10: at(63572, 15924), 32: at(46341, 46341), 63: at(1608, 65516), 65: at(-1608, 65516), 96: at(-46341, 46341),
		160: at(-46341, -46341), 224: at(46341, -46341), 255: at(65516, -1608), -1: at(65516, -1608), -54: at(15924, -63572),
		math.MinInt: at(65536, 0), math.MaxInt: at(65516, -1608), math.MinInt + 64: at(0, 65536),
	} {
		if got := vec.Unit(h); got != want {
			t.Errorf("Unit(%d) = %v, want %v", h, got, want)
		}
	}
	for _, h := range headings() {
		meant := turned(whole(int64(h)))
		if got, want := vec.Unit(h), at(fix.Cos(meant), fix.Sin(meant)); got != want {
			t.Errorf("Unit(%d) = %v, want %v", h, got, want)
		}
	}
}

// 13.8: the chapter's examples, all quarters and their halves, differences that are kept within.
func TestTowardExamples(t *testing.T) {
	for _, c := range []struct {
		a, b api.Vec
		want int
	}{
		{at(0, 0), at(9, 0), 0}, {at(0, 0), at(0, -7), 192}, {at(5, 5), at(5, 5), 0}, {at(0, 0), at(0, 0), 0}, {at(least, greatest), at(least, greatest), 0},
		{at(0, 0), at(0, 1), 64}, {at(0, 0), at(-3, 0), 128}, {at(0, 0), at(7, 7), 32}, {at(0, 0), at(-7, 7), 96}, {at(0, 0), at(-7, -7), 160}, {at(0, 0), at(7, -7), 224},
		{at(5, 5), at(5, 4), 192}, {at(5, 5), at(4, 5), 128},
		{at(least, 0), at(greatest, 0), 0}, {at(greatest, 0), at(least, 0), 128}, {at(0, least), at(0, greatest), 64}, {at(0, greatest), at(0, least), 192},
		{at(least, least), at(greatest, greatest), 32}, {at(greatest, least), at(least, greatest), 96}, {at(0, 0), at(least, least), 160}, {at(0, 0), at(greatest, -1<<40), 224},
		{at(0, 0), at(1<<40, 1<<31), 32}, {at(0, 0), at(-1<<40, reach), 96}, {at(0, 0), at(1<<62, 1), 0}, {at(0, 0), at(1<<62, 1<<30), 19},
	} {
		if got := vec.Toward(c.a, c.b); got != c.want {
			t.Errorf("Toward(%v, %v) = %d, want %d", c.a, c.b, got, c.want)
		}
	}
}

// 13.8: between two neighbours lies a way that both lead along equally far: the lesser one is told, 0 and not 255; a little to either side of it the nearer one alone is best.
func TestTowardEqual(t *testing.T) {
	for h := range 256 {
		u, v := vec.Unit(h), vec.Unit(h+1)
		for _, times := range []int64{1, 2, 17, 500000} {
			x, y := (v.Y-u.Y)*times, (u.X-v.X)*times
			want, other := h, (h+1)%256
			if other < want {
				want = other
			}
			a := at(-7, 1<<30)
			if list := bests(a, at(a.X+x, a.Y+y)); len(list) != 2 {
				t.Fatalf("between %d and %d: %v are equal", h, h+1, list)
			}
			if got := vec.Toward(a, at(a.X+x, a.Y+y)); got != want {
				t.Errorf("Toward halfway from %d to %d = %d, want %d", h, h+1, got, want)
			}
			if times < 500000 {
				continue
			}
			// A way turned by a quarter points from this heading on to the next one.
			side := at(-y>>20, x>>20)
			if got := vec.Toward(a, at(a.X+x-side.X, a.Y+y-side.Y)); got != h {
				t.Errorf("Toward a little ahead of halfway from %d = %d", h, got)
			}
			if got := vec.Toward(a, at(a.X+x+side.X, a.Y+y+side.Y)); got != (h+1)%256 {
				t.Errorf("Toward a little behind halfway from %d = %d", h, got)
			}
		}
	}
}

// 13.8: every direction, near and far, against all headings asked one by one.
func TestTowardExactly(t *testing.T) {
	far := int64(25)
	times := 1500
	if testing.Short() {
		far, times = 6, 100
	}
	for x := -far; x <= far; x++ {
		for y := -far; y <= far; y++ {
			wantToward(t, at(3, -8), at(3+x, y-8))
		}
	}
	d := dice(123456789)
	for range times {
		a, b := d.place(), d.place()
		wantToward(t, a, b)
		wantToward(t, at(d.next()>>33, d.next()>>33), at(d.next()>>33, d.next()>>33))
	}
	for _, x := range []int64{least, -reach - 1, -reach, 1 - reach, -1, 0, 1, reach - 1, reach, reach + 1, greatest} {
		for _, y := range []int64{least, -reach - 1, -reach, -1, 0, 1, 1 << 20, reach, reach + 1, greatest} {
			wantToward(t, at(0, 0), at(x, y))
			wantToward(t, at(x, y), at(0, 0))
			wantToward(t, at(x, y), at(y, x))
		}
	}
}
