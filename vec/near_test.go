package vec_test

import (
	"math/big"
	"testing"

	"joust/api"
	"joust/vec"
)

// apart is the exact difference of two parts, kept within reach.
func apart(a, b int64) int64 { return within(difference(a, b), reach) }

// squares is the sum of two squares, reckoned exactly.
func squares(x, y int64) *big.Int { return new(big.Int).Add(product(x, x), product(y, y)) }

func exactDist2(a, b api.Vec) *big.Int { return squares(apart(a.X, b.X), apart(a.Y, b.Y)) }

func exactLen(a api.Vec) int64 {
	return new(big.Int).Sqrt(squares(within(whole(a.X), reach), within(whole(a.Y), reach))).Int64()
}

// 13.4: the chapter's examples, its greatest answer, and differences at and about the bound.
func TestDist2Examples(t *testing.T) {
	for _, c := range []struct {
		a, b api.Vec
		want int64
	}{
		{at(0, 0), at(3, 4), 25},
		{at(0, 0), at(-3, 4), 25},
		{at(7, 7), at(7, 7), 0},
		{at(least, 0), at(greatest, 0), 4611686014132420609},
		{at(0, greatest), at(0, least), 4611686014132420609},
		{at(least, greatest), at(greatest, least), 9223372028264841218},
		{at(least, least), at(least, least), 0},
		{at(least, greatest), at(least+3, greatest-4), 25},
		{at(least, 0), at(0, 0), 4611686014132420609},
		{at(0, 0), at(reach-1, 0), 4611686009837453316},
		{at(0, 0), at(reach, 0), 4611686014132420609},
		{at(0, 0), at(0, reach+1), 4611686014132420609},
		{at(0, 0), at(0, -reach-2), 4611686014132420609},
		{at(-reach+1, 0), at(0, 0), 4611686009837453316},
		{at(-1<<30, 1), at(1<<30, 0), 4611686014132420610},
		{at(-1<<30, 1), at(1<<30-1, 0), 4611686014132420610},
		{at(-1<<30, 1), at(1<<30-2, 0), 4611686009837453317},
	} {
		if got := vec.Dist2(c.a, c.b); got != c.want {
			t.Errorf("Dist2(%v, %v) = %d, want %d", c.a, c.b, got, c.want)
		}
	}
}

// 13.5: the chapter's examples and hard places: below 0, at, below and above the distance, squares that leave an int64.
func TestWithinExamples(t *testing.T) {
	near, far := at(3, 4), at(greatest, greatest)
	for _, c := range []struct {
		a, b api.Vec
		r    int64
		want bool
	}{
		{at(0, 0), near, 5, true}, {at(0, 0), near, 4, false}, {at(0, 0), near, -5, false}, {at(0, 0), near, 6, true},
		{at(0, 0), near, least, false}, {at(0, 0), near, -1 << 32, false}, {at(0, 0), near, greatest, true}, {at(0, 0), near, 0, false},
		{near, near, 0, true}, {near, near, -1, false}, {near, near, least, false}, {near, at(3, 5), 0, false}, {near, at(3, 5), 1, true},
		{at(0, 0), at(1, 1), 1, false}, {at(0, 0), at(1, 1), 2, true},
		{at(least, least), far, 3037000497, false}, {at(least, least), far, 3037000498, false},
		{at(least, least), far, 3037000499, true}, {at(least, least), far, 3037000500, true}, {at(least, least), far, 3037000501, true},
		{at(least, least), far, 1 << 32, true}, {at(least, least), far, 1 << 33, true}, {at(least, least), far, greatest, true},
		{at(least, least), far, -3037000500, false}, {at(least, least), far, least, false},
		{at(least, 0), at(greatest, 0), reach, true}, {at(least, 0), at(greatest, 0), reach - 1, false}, {at(least, 1), at(greatest, 0), reach, false},
		{at(0, 0), at(98304, 0), 98304, true}, {at(0, 0), at(98304, 1), 98304, false}, {at(0, 0), at(0, -98305), 98304, false},
	} {
		if got := vec.Within(c.a, c.b, c.r); got != c.want {
			t.Errorf("Within(%v, %v, %d) = %v, want %v", c.a, c.b, c.r, got, c.want)
		}
	}
}

// 13.9: the chapter's examples and hard places, roots about a square, parts at and beyond the bound.
func TestLenExamples(t *testing.T) {
	for _, c := range []struct {
		a    api.Vec
		want int64
	}{
		{at(3, -4), 5}, {at(1, 1), 1}, {at(0, 0), 0}, {at(0, -1), 1}, {at(2, 2), 2}, {at(3, 3), 4}, {at(4, -3), 5}, {at(4, 4), 5}, {at(-7, 24), 25},
		{at(7, 23), 24}, {at(65536, 0), 65536}, {at(65536, 65536), 92681},
		{at(1<<62, 1<<62), 3037000498}, {at(least, least), 3037000498}, {at(greatest, least), 3037000498},
		{at(least, 0), reach}, {at(0, greatest), reach}, {at(reach, 0), reach}, {at(0, -reach), reach}, {at(0, -reach-1), reach},
		{at(reach-1, 0), reach - 1}, {at(reach, reach), 3037000498}, {at(reach, 65535), reach}, {at(reach, 65536), reach + 1}, {at(-65536, reach+9), reach + 1},
	} {
		if got := vec.Len(c.a); got != c.want {
			t.Errorf("Len(%v) = %d, want %d", c.a, got, c.want)
		}
	}
}

// 13.4, 13.5: every place, every radius, of few.
func TestNearSmall(t *testing.T) {
	for x := int64(-6); x <= 6; x++ {
		for y := int64(-6); y <= 6; y++ {
			a := at(100, -100)
			b := at(100+x, y-100)
			if got := vec.Dist2(a, b); got != x*x+y*y {
				t.Fatalf("Dist2(%v, %v) = %d, want %d", a, b, got, x*x+y*y)
			}
			for r := int64(-10); r <= 10; r++ {
				if got, want := vec.Within(a, b, r), r >= 0 && x*x+y*y <= r*r; got != want {
					t.Fatalf("Within(%v, %v, %d) = %v, want %v", a, b, r, got, want)
				}
			}
		}
	}
}

// wantNear holds two places' distance, and radii below, at and above it, against what is reckoned exactly.
func wantNear(t *testing.T, a, b api.Vec) {
	t.Helper()
	exact := exactDist2(a, b)
	if got := vec.Dist2(a, b); whole(got).Cmp(exact) != 0 {
		t.Fatalf("Dist2(%v, %v) = %d, want %v", a, b, got, exact)
	}
	root := new(big.Int).Sqrt(exact).Int64()
	for _, r := range []int64{root - 1, root, root + 1, -root, 3037000499, 3037000500, a.X, b.Y} {
		if got, want := vec.Within(a, b, r), r >= 0 && exact.Cmp(product(r, r)) <= 0; got != want {
			t.Fatalf("Within(%v, %v, %d) = %v, want %v", a, b, r, got, want)
		}
	}
}

// 13.4, 13.5: places of all sizes, near and far, against what is reckoned exactly.
func TestNearExactly(t *testing.T) {
	pairs(func(a, b api.Vec) { wantNear(t, a, b) })
	d := dice(2463534242)
	for range 20000 {
		a := d.place()
		wantNear(t, a, d.place())
		wantNear(t, a, at(a.X+d.sized()>>30, a.Y+d.sized()>>30)) // a sum that wraps round is a place like any other
	}
}

// 13.9: the root of any two parts' squares, and of those about whole lengths.
func TestLenExactly(t *testing.T) {
	want := func(a api.Vec) {
		if got, want := vec.Len(a), exactLen(a); got != want {
			t.Fatalf("Len(%v) = %d, want %d", a, got, want)
		}
	}
	pairs(func(a, b api.Vec) { want(at(a.X, b.X)) })
	for x := int64(-70); x <= 70; x++ {
		for y := int64(-70); y <= 70; y++ {
			want(at(x, y))
		}
	}
	d := dice(521288629)
	for range 5000 {
		m, n := d.next()&0x7fff, d.next()&0x7fff
		legs := at(m*m-n*n, 2*m*n) // its length is m m + n n
		for _, by := range []int64{-1, 0, 1} {
			want(at(legs.X, legs.Y+by))
			want(at(legs.Y+by, -legs.X))
		}
	}
}
