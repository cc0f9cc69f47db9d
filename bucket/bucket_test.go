package bucket_test

import (
	"math"
	"testing"

	"joust/api"
	"joust/bucket"
)

// begun is a bucket of that rate and burst.
func begun(t *testing.T, rate, burst int) bucket.Bucket {
	t.Helper()
	b, e := bucket.New(rate, burst)
	if e != api.OK {
		t.Fatalf("New(%d, %d): %v", rate, burst, e)
	}
	return b
}

// emptied is one whose tokens were all taken.
func emptied(t *testing.T, rate, burst int) bucket.Bucket {
	t.Helper()
	b := begun(t, rate, burst)
	for i := range burst {
		if e := b.Take(); e != api.OK {
			t.Fatalf("New(%d, %d): Take number %d: %v", rate, burst, i+1, e)
		}
	}
	return b
}

// wantLeft holds Left, and the Takes that a copy gives, against how many there should be: P8.5 and P8.7 at once.
func wantLeft(t *testing.T, what string, b bucket.Bucket, want int) {
	t.Helper()
	if n := b.Left(); n != want {
		t.Fatalf("%s: Left %d, want %d", what, n, want)
	}
	for i := range want {
		if e := b.Take(); e != api.OK {
			t.Fatalf("%s: Take number %d of %d: %v", what, i+1, want, e)
		}
		if n := b.Left(); n != want-i-1 {
			t.Fatalf("%s: Left %d behind %d Takes of %d", what, n, i+1, want)
		}
	}
	for range 3 {
		if e := b.Take(); e != api.ErrRate || b.Left() != 0 {
			t.Fatalf("%s: a Take behind all %d: %v, Left %d", what, want, e, b.Left())
		}
	}
}

// P8.1: api's numbers are the chapter's.
func TestNumbers(t *testing.T) {
	if api.MaxRate != 1000 || api.Share != 16 || api.ErrSize != 110 || api.ErrRate != 80 {
		t.Fatal(api.MaxRate, api.Share, api.ErrSize, api.ErrRate)
	}
}

// P8.1: rates and bursts just outside their bounds and far outside, each beside one that may be, and both at once.
func TestNewRefuses(t *testing.T) {
	rates := []int{-1, -2, -16, -1000, 1001, 1002, 2000, 16000, 1 << 16, 1 << 31, 1 << 32, 1<<32 + 5, 1 << 60, -1 << 32, math.MaxInt, math.MaxInt - 1, math.MinInt, math.MinInt + 1}
	bursts := append([]int{0}, rates...)
	refused := func(rate, burst int) {
		if _, e := bucket.New(rate, burst); e != api.ErrSize {
			t.Errorf("New(%d, %d): %v, want ErrSize", rate, burst, e)
		}
	}
	for _, rate := range rates {
		for _, burst := range []int{1, 2, 5, 999, 1000} {
			refused(rate, burst)
		}
		for _, burst := range bursts {
			refused(rate, burst)
		}
	}
	for _, burst := range bursts {
		for _, rate := range []int{0, 1, 5, 16, 999, 1000} {
			refused(rate, burst)
		}
	}
}

// P8.1, P8.5, P8.7: one at the bounds or within them is full, and has no share above its burst.
func TestNewIsFull(t *testing.T) {
	for _, rate := range []int{0, 1, 2, 15, 16, 17, 31, 32, 500, 999, 1000} {
		for _, burst := range []int{1, 2, 3, 15, 16, 17, 500, 999, 1000} {
			b := begun(t, rate, burst)
			wantLeft(t, "a new one", b, burst)
			b.Tick()
			wantLeft(t, "a full one behind a Tick", b, burst)
			b.Ticks(math.MaxUint64)
			wantLeft(t, "a full one behind all Ticks", b, burst)
		}
	}
}

// P8.1: every rate and every burst that may be.
func TestNewTakesAllThatMayBe(t *testing.T) {
	for n := range api.MaxRate + 1 {
		if b := begun(t, n, 1); b.Left() != 1 {
			t.Fatalf("New(%d, 1): Left %d", n, b.Left())
		}
		if n == 0 {
			continue
		}
		if b := begun(t, 0, n); b.Left() != n {
			t.Fatalf("New(0, %d): Left %d", n, b.Left())
		}
	}
}

// row is the rest of one line of the examples: what is done to a bucket, in order. T: a Take that is OK; F: one that is ErrRate; t: a Tick; a digit: Left.
func row(t *testing.T, b *bucket.Bucket, steps string) {
	t.Helper()
	for i, c := range steps {
		switch c {
		case 'T':
			if e := b.Take(); e != api.OK {
				t.Fatalf("%q, step %d: Take %v, want OK", steps, i, e)
			}
		case 'F':
			if e := b.Take(); e != api.ErrRate {
				t.Fatalf("%q, step %d: Take %v, want ErrRate", steps, i, e)
			}
		case 't':
			b.Tick()
		default:
			if n := b.Left(); n != int(c-'0') {
				t.Fatalf("%q, step %d: Left %d, want %c", steps, i, n, c)
			}
		}
	}
}

// P8.1 to P8.5: the chapter's examples, in their order.
func TestExamples(t *testing.T) {
	for _, c := range [][2]int{{0, 0}, {-1, 5}, {1001, 5}, {5, 1001}} {
		if _, e := bucket.New(c[0], c[1]); e != api.ErrSize {
			t.Errorf("New(%d, %d): %v, want ErrSize", c[0], c[1], e)
		}
	}
	b := begun(t, 32, 3)
	row(t, &b, "3TTTF")
	row(t, &b, "t2t3")
	row(t, &b, "T")
	b.Ticks(0)
	row(t, &b, "2TT")
	b.Ticks(1)
	row(t, &b, "2")
	b = begun(t, 8, 1)
	row(t, &b, "Tt0Ft1T")
	b = begun(t, 8, 2)
	row(t, &b, "TtTFtT")
	b = begun(t, 0, 1)
	row(t, &b, "T")
	b.Ticks(9)
	row(t, &b, "F")
	b = begun(t, 1000, 1)
	row(t, &b, "Tt1")
}

// P8.2, P8.3: the hard places: what is taken of rate 0 never comes again, rate 1 needs sixteen Ticks, and shares stay.
func TestSlowRates(t *testing.T) {
	b := emptied(t, 0, 7)
	for range 100 {
		b.Tick()
		wantLeft(t, "rate 0", b, 0)
	}
	b = emptied(t, 1, 3)
	for n := 1; n <= 100; n++ {
		b.Tick()
		wantLeft(t, "rate 1", b, min(n/16, 3))
	}
	b = begun(t, 1, 5)
	b.Take()
	for range 15 {
		b.Tick()
		wantLeft(t, "a Take and up to 15 Ticks of rate 1", b, 4)
	}
	b.Tick()
	wantLeft(t, "a Take and 16 Ticks of rate 1", b, 5)
}

// P8.2: a Take that is refused changes nothing: the shares that were there stay.
func TestRefusedTakeLeavesShares(t *testing.T) {
	b := emptied(t, 15, 2)
	b.Tick()
	for range 40 {
		if e := b.Take(); e != api.ErrRate {
			t.Fatalf("Take of 15 shares: %v", e)
		}
	}
	row(t, &b, "t1T0")
	// 14 shares are left, and 15 more make one token and 13 shares.
	row(t, &b, "Ft1TFt1TF")
}

// P8.3: what would be above the burst is lost, its shares too.
func TestOverflowIsLost(t *testing.T) {
	b := begun(t, 15, 1)
	row(t, &b, "ttt1TF")
	row(t, &b, "t0t1T")
	// 14 shares are there; a Tick makes 29, of which 16 stay.
	row(t, &b, "ttT0Ft0Ft1")
	b = begun(t, 1000, 1000)
	row(t, &b, "Tt")
	wantLeft(t, "1000 a Tick and 16 missing", b, 1000)
	b = emptied(t, 1000, 1000)
	for n := 1; n <= 20; n++ {
		b.Tick()
		wantLeft(t, "Ticks of rate 1000 up to the burst 1000", b, min(1000*n/16, 1000))
	}
}

// P8.5: Left changes nothing.
func TestLeftOnlyTells(t *testing.T) {
	b := emptied(t, 9, 4)
	for n := 1; n <= 12; n++ {
		b.Tick()
		for range 20 {
			if l := b.Left(); l != min(9*n/16, 4) {
				t.Fatalf("%d Ticks of rate 9: Left %d", n, l)
			}
		}
	}
}

// P8.2 to P8.5, R13: a copy goes on by itself, whichever of the two is used, and however it was copied.
func TestCopiesGoOnAlone(t *testing.T) {
	a := begun(t, 8, 3)
	b := a
	row(t, &b, "TTT0F")
	wantLeft(t, "the first one", a, 3)
	row(t, &a, "T2")
	wantLeft(t, "the copy", b, 0)
	b.Ticks(4)
	wantLeft(t, "the first one", a, 2)
	wantLeft(t, "the copy that had Ticks", b, 2)
	a.Tick()
	a.Tick()
	wantLeft(t, "the first one", a, 3)
	wantLeft(t, "the copy", b, 2)

	many := [3]bucket.Bucket{a, a, b}
	others := many
	row(t, &many[0], "TTT0")
	wantLeft(t, "beside it in the array", many[1], 3)
	wantLeft(t, "in the copied array", others[0], 3)

	kept := map[string]bucket.Bucket{"x": a}
	x := kept["x"]
	row(t, &x, "TT1")
	wantLeft(t, "in the map", kept["x"], 3)
	kept["x"] = x
	row(t, &x, "T0")
	wantLeft(t, "in the map, laid back", kept["x"], 1)
	wantLeft(t, "the first one of all", a, 3)
}

// R13: two buckets that were made alike have nothing in common, and a third one is full.
func TestMadeAlike(t *testing.T) {
	a, b := begun(t, 16, 2), begun(t, 16, 2)
	row(t, &a, "TT0F")
	wantLeft(t, "the other one", b, 2)
	wantLeft(t, "a later one", begun(t, 16, 2), 2)
}
