package bucket_test

import (
	"math"
	"testing"
	"time"

	"joust/api"
	"joust/bucket"
)

// dice give numbers that look like chance and are the same in every run.
type dice uint64

func (d *dice) word() uint64 {
	*d ^= *d << 13
	*d ^= *d >> 7
	*d ^= *d << 17
	return uint64(*d) * 0x2545f4914f6cdd1d
}

func (d *dice) below(n int) int { return int(d.word() >> 20 % uint64(n)) }

// plain is a bucket as the chapter tells it: a count of sixteenths, one Tick after the other.
type plain struct{ rate, burst, sixteenths int }

func plainNew(rate, burst int) plain { return plain{rate, burst, 16 * burst} }

func (p *plain) take() api.Errno {
	if p.sixteenths < 16 {
		return api.ErrRate
	}
	p.sixteenths -= 16
	return api.OK
}

func (p *plain) tick() {
	for range p.rate {
		if p.sixteenths < 16*p.burst {
			p.sixteenths++
		}
	}
}

func (p *plain) left() int {
	n := 0
	for s := p.sixteenths; s >= 16; s -= 16 {
		n++
	}
	return n
}

var (
	someRates  = []int{0, 1, 2, 7, 15, 16, 17, 31, 32, 33, 999, 1000}
	someBursts = []int{1, 2, 3, 17, 999, 1000}
)

// step is one call and what it brought: ticks that went by, or a Take that was OK.
type step struct {
	ticks uint64
	taken bool
}

// played does any calls to a bucket and to a plain count, holds each answer against the other, and tells the steps.
func played(t *testing.T, d *dice, rate, burst, calls, takes int) []step {
	t.Helper()
	b, p := begun(t, rate, burst), plainNew(rate, burst)
	var steps []step
	for i := range calls {
		var s step
		switch c := d.below(takes + 3); c {
		case 0:
			b.Tick()
			p.tick()
			s.ticks = 1
		case 1:
			s.ticks = uint64(d.below(20))
			b.Ticks(s.ticks)
			for range s.ticks {
				p.tick()
			}
		case 2:
			b.Left()
		default:
			e, want := b.Take(), p.take()
			if e != want {
				t.Fatalf("New(%d, %d), call %d: Take %v, want %v", rate, burst, i, e, want)
			}
			s.taken = e == api.OK
		}
		if n := b.Left(); n != p.left() {
			t.Fatalf("New(%d, %d), behind call %d: Left %d, want %d", rate, burst, i, n, p.left())
		}
		steps = append(steps, s)
	}
	return steps
}

// wantBound holds every row of steps, wherever it begins and ends, against the bound of P8.6.
func wantBound(t *testing.T, rate, burst int, steps []step) {
	t.Helper()
	for from := range steps {
		ticks, taken := 0, 0
		for to := from; to < len(steps); to++ {
			ticks += int(steps[to].ticks)
			if steps[to].taken {
				taken++
			}
			if bound := burst + rate*ticks/16; taken > bound {
				t.Fatalf("New(%d, %d): %d Takes are OK in calls %d to %d with %d Ticks, the bound is %d", rate, burst, taken, from, to, ticks, bound)
			}
		}
	}
}

// P8.2, P8.3, P8.5, P8.6: any calls in any order, with few Takes, about as many as Ticks, and many.
func TestAnyCalls(t *testing.T) {
	d := dice(8)
	for _, rate := range someRates {
		for _, burst := range someBursts {
			for _, takes := range []int{1, 3, 10, 60, 1000} {
				wantBound(t, rate, burst, played(t, &d, rate, burst, 300, takes))
			}
		}
	}
}

// P8.2, P8.3, P8.5, P8.6: as above, of many rates and bursts, and over longer rows of calls.
func TestAnyCallsOfManyRates(t *testing.T) {
	if testing.Short() {
		t.Skip("takes seconds")
	}
	d := dice(88)
	for range 300 {
		rate, burst := d.below(api.MaxRate+1), 1+d.below(api.MaxRate)
		if d.below(2) == 0 {
			rate, burst = d.below(40), 1+d.below(20)
		}
		wantBound(t, rate, burst, played(t, &d, rate, burst, 2000, 1+d.below(100)))
	}
}

// P8.6: whoever takes whatever there is, ahead of anything being lost, gets the whole bound and not one above it.
func TestBoundIsReached(t *testing.T) {
	for _, c := range [][2]int{{0, 1}, {1, 1}, {8, 1}, {16, 1}, {0, 2}, {7, 2}, {15, 2}, {16, 2}, {17, 3}, {1, 1000}, {15, 1000}, {1000, 1000}} {
		rate, burst := c[0], c[1]
		b := begun(t, rate, burst)
		taken := 0
		for ticks := range 200 {
			for b.Take() == api.OK {
				taken++
			}
			if bound := burst + rate*ticks/16; taken != bound {
				t.Fatalf("New(%d, %d): %d Takes are OK with %d Ticks, want %d", rate, burst, taken, ticks, bound)
			}
			b.Tick()
		}
	}
}

// P8.7: at every count of sixteenths that a small bucket can hold, Left Takes in a row are OK and no more.
func TestLeftTakesInARow(t *testing.T) {
	for burst := 1; burst <= 5; burst++ {
		for held := range 16*burst + 1 {
			b := emptied(t, 1, burst)
			for range held {
				b.Tick()
			}
			wantLeft(t, "so many sixteenths", b, held/16)
		}
	}
}

// wantAlike holds two buckets against each other by what they answer from here on, and so by their sixteenths.
func wantAlike(t *testing.T, what string, a, b bucket.Bucket) {
	t.Helper()
	for i := range 34 {
		if a.Left() != b.Left() {
			t.Fatalf("%s, %d Ticks later: Left %d and %d", what, i, a.Left(), b.Left())
		}
		for a.Left() > 0 {
			if x, y := a.Take(), b.Take(); x != api.OK || y != api.OK {
				t.Fatalf("%s, %d Ticks later: Take %v and %v", what, i, x, y)
			}
		}
		a.Tick()
		b.Tick()
	}
}

// P8.4: Ticks(n) is n Ticks, from an empty bucket and from one that holds some, till long behind the last one that brings something.
func TestTicksAreTicks(t *testing.T) {
	for _, rate := range someRates {
		for _, burst := range []int{1, 2, 9} {
			for _, kept := range []int{0, 1, burst} {
				from := begun(t, rate, burst)
				for from.Left() > kept {
					from.Take()
				}
				one := from
				for n := range uint64(16*burst + 40) {
					all := from
					all.Ticks(n)
					wantAlike(t, "Ticks and as many times Tick", all, one)
					one.Tick()
				}
			}
		}
	}
}

// P8.4: the greatest burst, about the last Tick that brings something.
func TestTicksOfTheGreatestBurst(t *testing.T) {
	for _, rate := range []int{1, 2, 15, 16, 17, 999, 1000} {
		last := (16*1000 + rate - 1) / rate
		from := emptied(t, rate, 1000)
		one := from
		for n := 0; n <= last+20; n++ {
			if n < 3 || n > last-20 || n%997 == 0 {
				all := from
				all.Ticks(uint64(n))
				wantAlike(t, "Ticks and as many times Tick", all, one)
				if want := min(rate*n/16, 1000); all.Left() != want {
					t.Fatalf("Ticks(%d) of New(%d, 1000): Left %d, want %d", n, rate, all.Left(), want)
				}
			}
			one.Tick()
		}
	}
}

// P8.4: Ticks(n) and then Ticks(m) is Ticks(n + m), whatever stands between two buckets' calls.
func TestTicksAddUp(t *testing.T) {
	d := dice(4)
	for range 20000 {
		rate, burst := d.below(api.MaxRate+1)>>d.below(11), 1+d.below(api.MaxRate)>>d.below(11)
		n, m := d.below(20000)>>d.below(16), d.below(20000)>>d.below(16)
		a := begun(t, rate, burst)
		for range d.below(burst + 1) {
			a.Take()
		}
		left := a.Left()
		b := a
		a.Ticks(uint64(n))
		a.Ticks(uint64(m))
		b.Ticks(uint64(n + m))
		if want := min(burst, left+rate*(n+m)/16); a.Left() != want || b.Left() != want {
			t.Fatalf("New(%d, %d) with %d: Ticks(%d), Ticks(%d): Left %d; Ticks(%d): Left %d; want %d", rate, burst, left, n, m, a.Left(), n+m, b.Left(), want)
		}
	}
}

// great are numbers of Ticks that would wrap some product or sum, or that look small or below 0 in fewer bits.
func great() []uint64 {
	list := []uint64{math.MaxUint64, math.MaxUint64 - 1, math.MaxUint64 / 1000, math.MaxUint64/1000 + 1, math.MaxInt64 / 1000, math.MaxInt64/1000 + 1, math.MaxUint64 / 17, math.MaxUint64/17 + 1, math.MaxInt64 / 17, math.MaxInt64/17 + 1}
	for shift := 14; shift < 64; shift++ {
		list = append(list, 1<<shift, 1<<shift+1, 1<<shift+1<<13, 1<<shift|5)
	}
	return list
}

// P8.4: great numbers of Ticks fill a bucket of any rate but 0, at once, and leave one of rate 0 as it is.
func TestGreatTicks(t *testing.T) {
	done := make(chan bool)
	go func() {
		defer close(done)
		for _, n := range great() {
			for _, rate := range someRates {
				for _, burst := range []int{1, 3, 1000} {
					greatTicks(t, rate, burst, n)
				}
			}
		}
	}()
	select {
	case <-done:
	case <-time.After(time.Minute):
		t.Fatal("P8.4: a great number of Ticks takes longer than a small one")
	}
}

// greatTicks is one great number of Ticks, of an empty bucket, of one with a token, and of a full one.
func greatTicks(t *testing.T, rate, burst int, n uint64) {
	for _, kept := range []int{0, 1, burst} {
		b, _ := bucket.New(rate, burst)
		for b.Left() > kept && b.Take() == api.OK {
		}
		want := burst
		if rate == 0 {
			want = kept
		}
		b.Ticks(n)
		if b.Left() != want {
			t.Errorf("New(%d, %d) with %d: Ticks(%d): Left %d, want %d", rate, burst, kept, n, b.Left(), want)
		}
		for range want {
			b.Take()
		}
		// With rate 15, one share above the burst is one token too early here.
		b.Tick()
		if left := min(burst, rate/16); b.Left() != left {
			t.Errorf("New(%d, %d) with %d: Ticks(%d), %d Takes, Tick: Left %d, want %d", rate, burst, kept, n, want, b.Left(), left)
		}
	}
}
