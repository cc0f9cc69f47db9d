package window_test

import (
	"math"
	"testing"

	"joust/api"
	"joust/window"
)

// wantCheck holds Check against what it should be, and High and Bits against what they were: 9.1's answer, and that nothing changes.
func wantCheck(t *testing.T, w *window.Window, seq uint64, want api.Errno) {
	t.Helper()
	high, bits := w.High(), w.Bits()
	for range 2 {
		if e := w.Check(seq); e != want {
			t.Fatalf("Check(%d) with High %d, Bits %x: %v, want %v", seq, high, bits, e, want)
		}
	}
	if w.High() != high || w.Bits() != bits {
		t.Fatalf("Check(%d) changed High %d, Bits %x to %d, %x", seq, high, bits, w.High(), w.Bits())
	}
}

// wantMark holds Mark against what it should be, and High and Bits behind it.
func wantMark(t *testing.T, w *window.Window, seq uint64, want api.Errno, high, bits uint64) {
	t.Helper()
	if e := w.Mark(seq); e != want || w.High() != high || w.Bits() != bits {
		t.Fatalf("Mark(%d): %v, High %d, Bits %x; want %v, %d, %x", seq, e, w.High(), w.Bits(), want, high, bits)
	}
}

// wantRefused holds a Mark that is refused, and Check, against the error, and High and Bits against what they were.
func wantRefused(t *testing.T, w *window.Window, seq uint64, want api.Errno) {
	t.Helper()
	wantCheck(t, w, seq, want)
	wantMark(t, w, seq, want, w.High(), w.Bits())
}

// marked is a window in which these were marked, one after the other.
func marked(t *testing.T, seqs ...uint64) window.Window {
	t.Helper()
	var w window.Window
	for _, seq := range seqs {
		if e := w.Mark(seq); e != api.OK {
			t.Fatalf("Mark(%d) of %d: %v", seq, seqs, e)
		}
	}
	return w
}

// far is a window whose High is high and nothing else is known in, come to by steps of 64.
func far(t *testing.T, high uint64) window.Window {
	t.Helper()
	var w window.Window
	for seq := high % 64; seq <= high; seq += 64 {
		if seq > 0 {
			wantMark(t, &w, seq, api.OK, seq, 1)
		}
	}
	return w
}

// 9.1: api's numbers are the chapter's.
func TestNumbers(t *testing.T) {
	if api.OK != 0 || api.ErrOld != 90 || api.ErrSeen != 91 || api.ErrFar != 92 {
		t.Fatal(api.OK, api.ErrOld, api.ErrSeen, api.ErrFar)
	}
}

// 9.1 to 9.3: the chapter's examples, in their order.
func TestExamples(t *testing.T) {
	var w window.Window
	wantCheck(t, &w, 0, api.ErrOld)
	wantCheck(t, &w, 1, api.OK)
	wantCheck(t, &w, 64, api.OK)
	wantCheck(t, &w, 65, api.ErrFar)
	if w.High() != 0 || w.Bits() != 0 {
		t.Fatalf("the empty window: High %d, Bits %x", w.High(), w.Bits())
	}
	wantMark(t, &w, 3, api.OK, 3, 1)
	wantMark(t, &w, 3, api.ErrSeen, 3, 1)
	wantMark(t, &w, 1, api.OK, 3, 5)
	wantMark(t, &w, 67, api.OK, 67, 1)
	wantCheck(t, &w, 3, api.ErrOld)
	wantCheck(t, &w, 4, api.OK)
	wantMark(t, &w, 4, api.OK, 67, 1<<63+1)
	wantCheck(t, &w, 132, api.ErrFar)
	wantCheck(t, &w, 131, api.OK)
}

// 9.1, 9.2: 0 is ErrOld, of the empty window and of all others, whatever High is.
func TestZero(t *testing.T) {
	var w window.Window
	wantRefused(t, &w, 0, api.ErrOld)
	for high := uint64(1); high < 300; high++ {
		if e := w.Mark(high); e != api.OK {
			t.Fatalf("Mark(%d): %v", high, e)
		}
		wantRefused(t, &w, 0, api.ErrOld)
	}
	for high := uint64(1); high <= 64; high++ {
		w := marked(t, high)
		wantRefused(t, &w, 0, api.ErrOld)
	}
}

// 9.1, 9.2: the empty window: 1 to 64 are fresh, and each may be the first; from 65 on all is ErrFar.
func TestEmpty(t *testing.T) {
	for seq := uint64(1); seq <= 64; seq++ {
		var w window.Window
		wantCheck(t, &w, seq, api.OK)
		wantMark(t, &w, seq, api.OK, seq, 1)
		wantRefused(t, &w, seq, api.ErrSeen)
	}
	var w window.Window
	for seq := uint64(65); seq < 400; seq++ {
		wantRefused(t, &w, seq, api.ErrFar)
	}
}

// 9.1 to 9.3: steps up, of every size that may be and some that may not, from windows with one bit, all bits, and others.
func TestSteps(t *testing.T) {
	full := marked(t)
	for seq := uint64(1); seq <= 200; seq++ {
		full.Mark(seq)
	}
	if full.Bits() != math.MaxUint64 {
		t.Fatalf("200 in a row: Bits %x", full.Bits())
	}
	for _, from := range []window.Window{full, far(t, 200), marked(t, 3, 1), marked(t, 64, 1, 2, 63), marked(t, 10, 9, 73), {}} {
		for step := uint64(1); step <= 64; step++ {
			w, bits := from, uint64(1)
			for i := range uint64(64) {
				if from.Bits()&(1<<i) != 0 && i+step < 64 {
					bits += 1 << (i + step)
				}
			}
			wantCheck(t, &w, from.High()+step, api.OK)
			wantMark(t, &w, from.High()+step, api.OK, from.High()+step, bits)
		}
		for step := uint64(65); step < 200; step++ {
			w := from
			wantRefused(t, &w, from.High()+step, api.ErrFar)
		}
	}
}

// 9.1 to 9.3: the hard places of a step: 63 up, one more, 64 up, 65 up.
func TestHardSteps(t *testing.T) {
	w := marked(t, 10, 9)
	wantMark(t, &w, 73, api.OK, 73, 1<<63+1)
	wantRefused(t, &w, 10, api.ErrSeen)
	wantRefused(t, &w, 9, api.ErrOld)
	wantMark(t, &w, 74, api.OK, 74, 3)
	wantRefused(t, &w, 10, api.ErrOld)
	wantRefused(t, &w, 73, api.ErrSeen)
	wantMark(t, &w, 11, api.OK, 74, 1<<63+3)
	wantRefused(t, &w, 139, api.ErrFar)
	wantMark(t, &w, 138, api.OK, 138, 1)
	wantRefused(t, &w, 74, api.ErrOld)
	wantMark(t, &w, 75, api.OK, 138, 1<<63+1)
	wantRefused(t, &w, 203, api.ErrFar)
	wantMark(t, &w, 202, api.OK, 202, 1)
	wantRefused(t, &w, 138, api.ErrOld)
}

// 9.1 to 9.3: High - 63 may still be fresh, High - 64 is ErrOld, wherever High is; each of the 64 has its own bit.
func TestLowEdge(t *testing.T) {
	for _, high := range []uint64{1, 2, 62, 63, 64, 65, 66, 127, 128, 129, 1000, 4096, 70001} {
		from := far(t, high)
		for i := range uint64(200) {
			w := from
			switch seq := high - i; {
			case i >= high:
				if i == high {
					wantRefused(t, &w, 0, api.ErrOld)
				}
			case i == 0:
				wantRefused(t, &w, seq, api.ErrSeen)
			case i < 64:
				wantCheck(t, &w, seq, api.OK)
				wantMark(t, &w, seq, api.OK, high, 1+1<<i)
				wantRefused(t, &w, seq, api.ErrSeen)
			default:
				wantRefused(t, &w, seq, api.ErrOld)
			}
		}
	}
}

// 9.1: numbers that were jumped over are fresh until they are 64 below, whatever is marked above them.
func TestJumpedOver(t *testing.T) {
	w := marked(t, 64)
	for high := uint64(65); high < 200; high++ {
		if e := w.Mark(high); e != api.OK {
			t.Fatalf("Mark(%d): %v", high, e)
		}
		for seq := uint64(1); seq < 64; seq++ {
			if high-seq < 64 {
				wantCheck(t, &w, seq, api.OK)
			} else {
				wantRefused(t, &w, seq, api.ErrOld)
			}
		}
	}
}

// great are numbers that a sum or a difference would wrap with, or that look near in fewer bits.
func great(high uint64) []uint64 {
	var list []uint64
	for i := range uint64(200) {
		list = append(list, math.MaxUint64-i)
	}
	for shift := 24; shift < 64; shift++ {
		for _, near := range []uint64{0, 1, 63, 64, 65} {
			list = append(list, 1<<shift+near, high+1<<shift+near, high+1<<shift-near, 1<<shift-1-near)
		}
	}
	return list
}

// 9.1, 9.2: numbers near 2^64 - 1, and other great ones, are ErrFar for every window; nothing wraps.
func TestGreat(t *testing.T) {
	for _, high := range []uint64{1, 2, 63, 64, 65, 128, 1000, 1 << 16, 1<<20 + 1} {
		w := far(t, high)
		for _, seq := range great(high) {
			wantRefused(t, &w, seq, api.ErrFar)
		}
	}
	var w window.Window
	for _, seq := range great(0) {
		wantRefused(t, &w, seq, api.ErrFar)
	}
}

// 9.6: Check changes nothing, of whatever number and however often it is asked: what comes later is as if it had not been asked.
func TestCheckChangesNothing(t *testing.T) {
	asked, quiet := marked(t, 5, 60, 2), marked(t, 5, 60, 2)
	for _, seq := range []uint64{61, 7, 124, 70, 65, 129, 1, 100} {
		for n := range uint64(300) {
			asked.Check(n)
		}
		asked.Check(math.MaxUint64)
		if x, y := asked.Mark(seq), quiet.Mark(seq); x != y || asked != quiet {
			t.Fatalf("Mark(%d): %v and %v, %v and %v", seq, x, y, asked, quiet)
		}
	}
}

// 9.6, R13: a copy goes its own way, whichever of the two is used, and however it was copied.
func TestCopiesGoTheirOwnWay(t *testing.T) {
	a := marked(t, 3, 1)
	b := a
	wantMark(t, &b, 2, api.OK, 3, 7)
	wantMark(t, &b, 67, api.OK, 67, 1)
	wantCheck(t, &a, 2, api.OK)
	wantMark(t, &a, 4, api.OK, 4, 11)
	wantCheck(t, &b, 4, api.OK)
	wantCheck(t, &b, 131, api.OK)
	wantCheck(t, &a, 131, api.ErrFar)

	many := [3]window.Window{a, a, b}
	others := many
	wantMark(t, &many[0], 68, api.OK, 68, 1)
	wantMark(t, &many[1], 5, api.OK, 5, 23)
	wantMark(t, &others[0], 5, api.OK, 5, 23)

	kept := map[string]window.Window{"x": a}
	x := kept["x"]
	wantMark(t, &x, 9, api.OK, 9, 1|11<<5)
	if w := kept["x"]; w.High() != 4 || w.Bits() != 11 {
		t.Fatalf("in the map: High %d, Bits %x", w.High(), w.Bits())
	}
	var empty window.Window
	wantCheck(t, &empty, 65, api.ErrFar)
	wantMark(t, &empty, 1, api.OK, 1, 1)
}
