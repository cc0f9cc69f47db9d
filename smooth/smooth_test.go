package smooth_test

import (
	"math"
	"testing"

	"joust/api"
	"joust/smooth"
)

func at(x, y, angle float32) api.Place { return api.Place{X: x, Y: y, Angle: angle} }

func wantPlace(t *testing.T, what string, got, want api.Place) {
	t.Helper()
	if !same(got, want) {
		t.Errorf("%s = %v, want %v", what, got, want)
	}
}

// P25.1: the chapter's examples; headings below 0, at the bounds of 256, far beyond them; places of any numbers.
func TestOf(t *testing.T) {
	for _, c := range []struct {
		at      api.Vec
		heading int
		want    api.Place
	}{
		{api.Vec{X: 65536, Y: -32768}, 64, at(1, -0.5, 90)},
		{api.Vec{}, -1, at(0, 0, 358.59375)},
		{api.Vec{X: 1, Y: -1}, 0, at(1.0/65536, -1.0/65536, 0)},
		{api.Vec{}, 1, at(0, 0, 1.40625)}, {api.Vec{}, 128, at(0, 0, 180)}, {api.Vec{}, 255, at(0, 0, 358.59375)},
		{api.Vec{}, 256, at(0, 0, 0)}, {api.Vec{}, 257, at(0, 0, 1.40625)}, {api.Vec{}, 511, at(0, 0, 358.59375)}, {api.Vec{}, 512, at(0, 0, 0)},
		{api.Vec{}, -255, at(0, 0, 1.40625)}, {api.Vec{}, -256, at(0, 0, 0)}, {api.Vec{}, -257, at(0, 0, 358.59375)}, {api.Vec{}, -64, at(0, 0, 270)},
		{api.Vec{}, math.MaxInt, at(0, 0, 358.59375)}, {api.Vec{}, math.MinInt, at(0, 0, 0)}, {api.Vec{}, math.MinInt + 1, at(0, 0, 1.40625)},
		{api.Vec{X: 16777217, Y: 16777219}, 1000, at(256, 16777220.0/65536, 326.25)},
		{api.Vec{X: math.MaxInt64, Y: math.MinInt64}, 0, at(1<<47, -1<<47, 0)}, {api.Vec{X: api.Max, Y: -api.Max}, 0, at(16777216, -16777216, 0)},
	} {
		if p := smooth.Of(c.at, c.heading); !same(p, c.want) {
			t.Errorf("Of(%v, %d) = %v, want %v", c.at, c.heading, p, c.want)
		}
	}
}

// P25.1: against the plain reading: each heading of some turns, and any numbers.
func TestOfPlain(t *testing.T) {
	for heading := -1100; heading <= 1100; heading++ {
		p := smooth.Of(api.Vec{X: int64(heading), Y: 7}, heading)
		wantPlace(t, "Of", p, plainOf(api.Vec{X: int64(heading), Y: 7}, heading))
		if p.Angle < 0 || p.Angle > 358.59375 {
			t.Errorf("the angle of %d is %v", heading, p.Angle)
		}
	}
	d := dice(1)
	for range 20000 {
		place, heading := d.vec(), int(d.raw())
		if p, want := smooth.Of(place, heading), plainOf(place, heading); !same(p, want) {
			t.Fatalf("Of(%v, %d) = %v, want %v", place, heading, p, want)
		}
	}
}

// P25.4: the chapter's examples; ticks of no number, below 0, 0, 32 and beyond it; a Wait of 0 and below is no wreck.
func TestAhead(t *testing.T) {
	right := api.Car{Speed: api.Vec{X: 65536}}
	slant := api.Car{At: api.Vec{X: -65536, Y: 131072}, Speed: api.Vec{X: 32768, Y: -65536}, Heading: -32}
	for _, c := range []struct {
		car   api.Car
		wait  int
		ticks float32
		want  api.Place
	}{
		{right, 0, 4, at(4, 0, 0)}, {right, 0, 100, at(32, 0, 0)}, {right, 0, -1, at(0, 0, 0)},
		{slant, 0, 0, at(-1, 2, 315)}, {slant, 0, minus, at(-1, 2, 315)}, {slant, 0, nan, at(-1, 2, 315)}, {slant, 0, -inf, at(-1, 2, 315)}, {slant, 0, -tiny, at(-1, 2, 315)},
		{slant, 0, 1, at(-0.5, 1, 315)}, {slant, 0, 0.5, at(-0.75, 1.5, 315)}, {slant, 0, 31, at(14.5, -29, 315)}, {slant, 0, 32, at(15, -30, 315)},
		{slant, 0, next(32), at(15, -30, 315)}, {slant, 0, 33, at(15, -30, 315)}, {slant, 0, inf, at(15, -30, 315)}, {slant, 0, great, at(15, -30, 315)},
		{slant, 1, 9, at(-1, 2, 315)}, {slant, 40, inf, at(-1, 2, 315)}, {slant, 1, nan, at(-1, 2, 315)}, {slant, math.MaxInt, 1, at(-1, 2, 315)},
		{slant, -1, 1, at(-0.5, 1, 315)}, {slant, math.MinInt, 1, at(-0.5, 1, 315)},
		{api.Car{At: api.Vec{X: math.MaxInt64}, Speed: api.Vec{X: math.MaxInt64, Y: math.MinInt64}, Heading: math.MinInt}, 0, 32, at(33<<47, -1<<52, 0)},
	} {
		c.car.Wait = c.wait
		if p := smooth.Ahead(c.car, c.ticks); !same(p, c.want) {
			t.Errorf("Ahead(%v, %v) = %v, want %v", c.car, c.ticks, p, c.want)
		}
	}
}

// P25.4: just below 32 the ticks are what they are.
func TestAheadJustBelow(t *testing.T) {
	c := api.Car{Speed: api.Vec{X: 65536, Y: -65536}}
	wantPlace(t, "Ahead", smooth.Ahead(c, prev(32)), at(prev(32), -prev(32), 0))
}

// P25.4: any cars and ticks, against the plain reading; and what a car has beside place, speed, heading and Wait is not looked at.
func TestAheadPlain(t *testing.T) {
	d := dice(4)
	for range 50000 {
		c := d.car()
		ticks := d.share() * float32(d.below(40))
		if d.below(4) == 0 {
			ticks = d.float()
		}
		p := smooth.Ahead(c, ticks)
		if want := plainAhead(c, ticks); !same(p, want) {
			t.Fatalf("Ahead(%v, %v) = %v, want %v", c, ticks, p, want)
		}
		bare := api.Car{At: c.At, Speed: c.Speed, Heading: c.Heading, Wait: c.Wait}
		if !same(smooth.Ahead(bare, ticks), p) {
			t.Fatalf("Ahead(%v, %v) looks at more", c, ticks)
		}
	}
}

// P25.5: the chapter's examples; none, one, many; sums that are infinite on the way; each sum rounded by itself, in order.
func TestMean(t *testing.T) {
	for _, c := range []struct {
		l    []float32
		want float32
	}{
		{[]float32{1, 2, 6}, 3}, {nil, 0}, {[]float32{}, 0},
		{[]float32{-4}, -4}, {[]float32{great}, great}, {[]float32{tiny}, tiny}, {[]float32{inf}, inf}, {[]float32{-inf}, -inf}, {[]float32{nan}, nan},
		{[]float32{minus}, 0}, {[]float32{1, nan}, nan}, {[]float32{nan, inf}, nan}, {[]float32{inf, -inf}, nan}, {[]float32{inf, 1, 2}, inf},
		{[]float32{great, great}, inf}, {[]float32{-great, -great}, -inf}, {[]float32{great, great, -great, -great}, inf}, {[]float32{great, -great, great, -great}, 0},
		{[]float32{great, great, -inf}, nan}, {[]float32{great, 1}, great / 2},
		{[]float32{16777216, 1, 1}, 5592405.5}, {[]float32{1, 1, 16777216}, 5592406}, {[]float32{1e8, 1, -1e8}, 0}, {[]float32{1e8, -1e8, 1}, 1.0 / 3},
		{[]float32{tiny, tiny}, tiny}, {[]float32{tiny, 0}, 0}, {[]float32{tiny, tiny, tiny, 0}, tiny}, {[]float32{0, 0, 1}, 1.0 / 3}, {[]float32{0.1, 0.2, 0.3, 0.4}, 0.25},
	} {
		if m := smooth.Mean(c.l...); !alike(m, c.want) {
			t.Errorf("Mean(%v) = %v, want %v", c.l, m, c.want)
		}
	}
	if m := smooth.Mean(); m != 0 {
		t.Errorf("Mean() = %v", m)
	}
	if m := smooth.Mean(1, 2, 6); m != 3 {
		t.Errorf("Mean(1, 2, 6) = %v", m)
	}
}

// P25.5: any numbers, against the plain reading.
func TestMeanPlain(t *testing.T) {
	d := dice(5)
	for i := range 20000 {
		l := make([]float32, d.below(1+i%60))
		for k := range l {
			switch d.below(20) {
			case 0:
				l[k] = d.float()
			case 1:
				l[k] = float32(d.raw())
			case 2:
				l[k] = math.Float32frombits(uint32(d.below(1 << 20))) // less than a float32's least whole one
			default:
				l[k] = d.angle() - 180
			}
		}
		if m, want := smooth.Mean(l...), plainMean(l); !alike(m, want) {
			t.Fatalf("Mean(%v) = %v, want %v", l, m, want)
		}
	}
}

// P25.5: how many there are is a float32, too: 2^24 + 1 are 2^24 then.
func TestMeanOfMany(t *testing.T) {
	if testing.Short() {
		t.Skip("64 MiB of numbers")
	}
	l := make([]float32, 1<<24+1)
	l[5] = 1 << 24
	if m := smooth.Mean(l...); m != 1 {
		t.Errorf("the mean of 2^24 + 1 numbers is %v, want 1", m)
	}
	for i := range l {
		l[i] = 1
	}
	l = append(l, 1, 1)
	// The sum stays at 2^24, where one more is rounded away; how many there are is rounded to 2^24 + 4.
	if m := smooth.Mean(l...); m != 16777216.0/16777220 {
		t.Errorf("the mean of 2^24 + 3 ones is %v", m)
	}
}
