package window_test

import (
	"math"
	"slices"
	"testing"

	"joust/api"
	"joust/window"
)

// dice give numbers that look like chance and are the same in every run.
type dice uint64

func (d *dice) word() uint64 {
	*d ^= *d << 13
	*d ^= *d >> 7
	*d ^= *d << 17
	return uint64(*d) * 0x2545f4914f6cdd1d
}

func (d *dice) below(n int) int { return int(d.word() >> 20 % uint64(n)) }

// shuffled is the same numbers in another order.
func (d *dice) shuffled(seqs []uint64) []uint64 {
	list := slices.Clone(seqs)
	for i := range list {
		j := i + d.below(len(list)-i)
		list[i], list[j] = list[j], list[i]
	}
	return list
}

// plain is a window as the chapter tells it: the list of all numbers that were ever marked.
type plain struct{ list []uint64 }

func (p *plain) high() uint64 {
	if len(p.list) == 0 {
		return 0
	}
	return slices.Max(p.list)
}

func (p *plain) check(seq uint64) api.Errno {
	high := p.high()
	switch {
	case seq > high && seq-high <= 64:
		return api.OK
	case seq > high:
		return api.ErrFar
	case seq == 0, high-seq >= 64:
		return api.ErrOld
	case slices.Contains(p.list, seq):
		return api.ErrSeen
	}
	return api.OK
}

func (p *plain) mark(seq uint64) api.Errno {
	e := p.check(seq)
	if e == api.OK {
		p.list = append(p.list, seq)
	}
	return e
}

func (p *plain) bits() uint64 {
	bits, value := uint64(0), uint64(1)
	for i := range uint64(64) {
		if high := p.high(); high > i && slices.Contains(p.list, high-i) {
			bits += value
		}
		value *= 2
	}
	return bits
}

// next is a number to try: near High mostly, at its edges often, and now and then anywhere.
func next(d *dice, high uint64, reach int) uint64 {
	switch d.below(12) {
	case 0:
		return high + []uint64{1, 63, 64, 65}[d.below(4)]
	case 1:
		return high - min(high, []uint64{0, 1, 62, 63, 64, 65}[d.below(6)])
	case 2:
		return d.word() >> d.below(64)
	case 3:
		return math.MaxUint64 - d.word()>>d.below(64)
	case 4:
		return uint64(d.below(3))
	case 5, 6:
		return high + uint64(d.below(reach))
	}
	return high - min(high, uint64(d.below(80)))
}

// anyCalls does any calls to a window and to a plain list, and holds all answers of one against the other's.
func anyCalls(t *testing.T, d *dice, calls, reach int) {
	t.Helper()
	var w window.Window
	var p plain
	for i := range calls {
		seq := next(d, p.high(), reach)
		if d.below(3) == 0 {
			if e, want := w.Check(seq), p.check(seq); e != want {
				t.Fatalf("call %d: Check(%d): %v, want %v; High %d, Bits %x", i, seq, e, want, w.High(), w.Bits())
			}
		} else if e, want := w.Mark(seq), p.mark(seq); e != want {
			t.Fatalf("call %d: Mark(%d): %v, want %v; High %d, Bits %x", i, seq, e, want, w.High(), w.Bits())
		}
		if w.High() != p.high() || w.Bits() != p.bits() {
			t.Fatalf("behind call %d (%d): High %d, Bits %x; want %d, %x", i, seq, w.High(), w.Bits(), p.high(), p.bits())
		}
	}
	for seq := range w.High() + 200 {
		if e, want := w.Check(seq), p.check(seq); e != want {
			t.Fatalf("at the end: Check(%d): %v, want %v; High %d, Bits %x", seq, e, want, w.High(), w.Bits())
		}
	}
}

// 9.1 to 9.3: any calls in any order, where High goes up slowly, middling and in great steps.
func TestAnyCalls(t *testing.T) {
	d := dice(9)
	for _, reach := range []int{2, 5, 20, 70} {
		for range 20 {
			anyCalls(t, &d, 200, reach)
		}
	}
}

// 9.1 to 9.3: as above, over many more and longer rows of calls.
func TestManyCalls(t *testing.T) {
	if testing.Short() {
		t.Skip("takes seconds")
	}
	d := dice(99)
	for range 400 {
		anyCalls(t, &d, 600, 2+d.below(80))
	}
}

// 9.4: over long rows of Marks each number is OK once at most, and what was OK is ErrSeen or ErrOld at every later time, never fresh again.
func TestOnce(t *testing.T) {
	d := dice(94)
	for range 30 {
		var w window.Window
		taken := map[uint64]int{}
		old := map[uint64]int{}
		for range 400 {
			seq := next(&d, w.High(), 2+d.below(64))
			if w.Mark(seq) == api.OK {
				taken[seq]++
			}
			if taken[seq] > 1 {
				t.Fatalf("%d was marked twice", seq)
			}
			for seq := range taken {
				e := w.Check(seq)
				if e != api.ErrSeen && e != api.ErrOld || (e == api.ErrOld) != (w.High()-seq >= 64) {
					t.Fatalf("Check(%d), which was marked: %v; High %d", seq, e, w.High())
				}
				if e == api.ErrOld {
					old[seq]++
				} else if old[seq] > 0 {
					t.Fatalf("Check(%d), which was ErrOld: %v; High %d", seq, e, w.High())
				}
			}
		}
	}
}

// 9.4: a window that went up by every step, with each number sent twice and all of them once more at the end.
func TestReplay(t *testing.T) {
	for step := uint64(1); step <= 64; step++ {
		var w window.Window
		for seq := step; seq < 50*step; seq += step {
			if e := w.Mark(seq); e != api.OK {
				t.Fatalf("steps of %d: Mark(%d): %v", step, seq, e)
			}
			if e := w.Mark(seq); e != api.ErrSeen {
				t.Fatalf("steps of %d: Mark(%d) once more: %v", step, seq, e)
			}
		}
		for seq := step; seq < 50*step; seq += step {
			want := api.ErrOld
			if w.High()-seq < 64 {
				want = api.ErrSeen
			}
			wantRefused(t, &w, seq, want)
		}
	}
}

// inOrder marks these in a copy of the window, all of which must be fresh when they come.
func inOrder(t *testing.T, w window.Window, seqs []uint64) window.Window {
	t.Helper()
	from := w
	for _, seq := range seqs {
		if e := w.Mark(seq); e != api.OK {
			t.Fatalf("Mark(%d) of %d, from High %d, Bits %x: %v", seq, seqs, from.High(), from.Bits(), e)
		}
	}
	return w
}

// wantAlike holds two windows against each other by High, Bits and whatever is asked and marked later.
func wantAlike(t *testing.T, d *dice, a, b window.Window) {
	t.Helper()
	if a.High() != b.High() || a.Bits() != b.Bits() {
		t.Fatalf("High %d, Bits %x and High %d, Bits %x", a.High(), a.Bits(), b.High(), b.Bits())
	}
	for i := range uint64(150) {
		up, down := a.High()+i, a.High()-min(a.High(), i)
		if a.Check(up) != b.Check(up) || a.Check(down) != b.Check(down) {
			t.Fatalf("Check(%d): %v and %v; Check(%d): %v and %v", up, a.Check(up), b.Check(up), down, a.Check(down), b.Check(down))
		}
	}
	for range 40 {
		seq := next(d, a.High(), 20)
		if x, y := a.Mark(seq), b.Mark(seq); x != y || a.High() != b.High() || a.Bits() != b.Bits() {
			t.Fatalf("Mark(%d): %v, High %d, Bits %x and %v, High %d, Bits %x", seq, x, a.High(), a.Bits(), y, b.High(), b.Bits())
		}
	}
}

// begun is some window: empty, or with a High anywhere and some bits.
func begun(d *dice) window.Window {
	var w window.Window
	for range d.below(60) {
		w.Mark(next(d, w.High(), 2+d.below(64)))
	}
	return w
}

// fresh are some numbers that lie less than 64 from one another, not beyond 64 of High, and are all fresh, in whatever order they come.
func fresh(d *dice, w window.Window) []uint64 {
	least := w.High() + uint64(d.below(65))
	if d.below(2) == 0 {
		least = w.High() - min(w.High(), uint64(d.below(64)))
	}
	top := min(w.High()+64, least+63)
	var seqs []uint64
	share := 1 + d.below(8)
	for seq := least; seq <= top; seq++ {
		if w.Check(seq) == api.OK && d.below(share) == 0 {
			seqs = append(seqs, seq)
		}
	}
	return seqs
}

// 9.5: numbers that lie within 64 of one another and of High, marked rising, falling and shuffled.
func TestInWhateverOrder(t *testing.T) {
	d := dice(95)
	for range 500 {
		from := begun(&d)
		seqs := fresh(&d, from)
		rising := inOrder(t, from, seqs)
		falling := slices.Clone(seqs)
		slices.Reverse(falling)
		wantAlike(t, &d, rising, inOrder(t, from, falling))
		for range 4 {
			wantAlike(t, &d, rising, inOrder(t, from, d.shuffled(seqs)))
		}
	}
}

// 9.5: all orders of five numbers at the edges: the least and the greatest that may be are 63 apart.
func TestAllOrders(t *testing.T) {
	d := dice(955)
	for _, from := range []window.Window{{}, far(t, 100), marked(t, 64, 2, 30)} {
		high := from.High()
		seqs := []uint64{high + 1, high + 2, high + 33, high + 63, high + 64}
		want := inOrder(t, from, seqs)
		var orders func(done, left []uint64)
		orders = func(done, left []uint64) {
			if len(left) == 0 {
				wantAlike(t, &d, want, inOrder(t, from, done))
			}
			for i, seq := range left {
				rest := slices.Concat(left[:i], left[i+1:])
				orders(append(slices.Clone(done), seq), rest)
			}
		}
		orders(nil, seqs)
	}
}

// 9.5: of two numbers 64 apart the lower is fresh only while it comes first; then High and Bits know nothing of it.
func TestSixtyFourApart(t *testing.T) {
	first := marked(t, 1, 65)
	later := marked(t, 2, 65)
	wantRefused(t, &later, 1, api.ErrOld)
	wantMark(t, &later, 3, api.OK, 65, 1<<63+1<<62+1)
	wantRefused(t, &first, 1, api.ErrOld)
	if first.High() != 65 || first.Bits() != 1 {
		t.Fatalf("High %d, Bits %x", first.High(), first.Bits())
	}
}

// 9.6: two windows that came to the same High and Bits by unlike ways answer all alike: what has gone out of sight has no later effect.
func TestSameHighAndBits(t *testing.T) {
	d := dice(96)
	for range 300 {
		a := begun(&d)
		// b comes by numbers that a never had, then over the 64 numbers that both know.
		b := far(t, a.High()-min(a.High(), 64))
		for i := 63; i >= 0; i-- {
			if a.Bits()>>i&1 == 1 {
				b.Mark(a.High() - uint64(i))
			}
		}
		wantAlike(t, &d, a, b)
	}
}
