package ring_test

import (
	"iter"
	"slices"
	"testing"

	"joust/ring"
)

// changes are what a loop's body may do with the ring.
var changes = map[string]func(r *ring.Ring[int], i int){
	"nothing":           func(r *ring.Ring[int], i int) {},
	"pushes":            func(r *ring.Ring[int], i int) { r.Push(100 + i) },
	"pops":              func(r *ring.Ring[int], i int) { r.Pop() },
	"takes all":         func(r *ring.Ring[int], i int) { r.Take(r.Len()) },
	"takes two":         func(r *ring.Ring[int], i int) { r.Take(2) },
	"pops and pushes":   func(r *ring.Ring[int], i int) { r.Pop(); r.Push(200 + i) },
	"takes all, pushes": func(r *ring.Ring[int], i int) { r.Take(9); r.Push(300); r.Push(301) },
	"fills": func(r *ring.Ring[int], i int) {
		for r.Room() > 0 {
			r.Push(400 + i)
		}
	},
	"takes all, fills": func(r *ring.Ring[int], i int) {
		r.Take(1 << 62)
		for r.Room() > 0 {
			r.Push(500 + i)
		}
	},
}

// P4.7: a range goes through what was there as it began, whatever its body does; the ring then is what the body made of it.
func TestRangeWhoseBodyChanges(t *testing.T) {
	things := []int{1, 2, 3, 4, 5}
	for what, change := range changes {
		for size := 1; size <= len(things); size++ {
			for by := range size + 1 {
				for have := range size + 1 {
					r := turned(t, size, by, things[:have]...)
					other := turned(t, size, 0, things[:have]...)
					var seen []int
					for i, x := range r.All() {
						if i != len(seen) {
							t.Fatalf("a body that %s: number %d, want %d", what, i, len(seen))
						}
						seen = append(seen, x)
						change(r, i)
					}
					if !slices.Equal(seen, things[:have]) {
						t.Fatalf("a body that %s (size %d, turned by %d): %v, want %v", what, size, by, seen, things[:have])
					}
					for i := range have {
						change(other, i)
					}
					wantRow(t, "behind a body that "+what, r, size, ranged(t, other)...)
				}
			}
		}
	}
}

// P4.7: one answer of All may be ranged over again, each time over what there is then, not what there was at All.
func TestRangedAgain(t *testing.T) {
	r := made[int](t, 4)
	all := r.All()
	again := func(want ...int) {
		t.Helper()
		var seen []int
		for i, x := range all {
			if i != len(seen) {
				t.Errorf("number %d, want %d", i, len(seen))
			}
			seen = append(seen, x)
		}
		if !slices.Equal(seen, want) {
			t.Errorf("a range goes through %v, want %v", seen, want)
		}
	}
	again()
	r.Push(1)
	r.Push(2)
	again(1, 2)
	again(1, 2)
	r.Pop()
	r.Push(3)
	r.Push(4)
	r.Push(5)
	again(2, 3, 4, 5)
	r.Take(4)
	again()
	r.Push(6)
	again(6)
}

// P4.7: a range that is left early, at each thing, in each way, leaves the ring and the iterator as they were.
func TestRangeLeftEarly(t *testing.T) {
	r := turned(t, 4, 3, 1, 2, 3, 4)
	all := r.All()
	for last := range 4 {
		var seen []int
		for i, x := range all {
			seen = append(seen, x)
			if i == last {
				break
			}
		}
		if !slices.Equal(seen, []int{1, 2, 3, 4}[:last+1]) {
			t.Errorf("left at %d: %v", last, seen)
		}
		wantRow(t, "behind a range left early", r, 4, 1, 2, 3, 4)
	}
	if x := firstAbove(all, 2); x != 3 {
		t.Errorf("left by return: %d, want 3", x)
	}
	leftByPanic(t, all)
	wantRow(t, "left by return and by panic", r, 4, 1, 2, 3, 4)
}

func firstAbove(all iter.Seq2[int, int], bound int) int {
	for _, x := range all {
		if x > bound {
			return x
		}
	}
	return 0
}

// leftByPanic: what the body does is its own, so its panic goes on to whoever ranges.
func leftByPanic(t *testing.T, all iter.Seq2[int, int]) {
	t.Helper()
	defer func() {
		if x := recover(); x != "left" {
			t.Errorf("the body's panic came out as %v", x)
		}
	}()
	for range all {
		panic("left")
	}
}

// P4.7: ranges within a range, of one iterator and of two, the inner one left early or with changes; each has its own beginning.
func TestRangeWithinARange(t *testing.T) {
	r := turned(t, 3, 1, 1, 2, 3)
	all := r.All()
	var pairs []int
	for _, x := range all {
		for _, y := range all {
			pairs = append(pairs, 10*x+y)
		}
	}
	if want := []int{11, 12, 13, 21, 22, 23, 31, 32, 33}; !slices.Equal(pairs, want) {
		t.Errorf("all pairs: %v, want %v", pairs, want)
	}
	pairs = nil
	for i, x := range all {
		for j, y := range r.All() {
			if j > i {
				break
			}
			pairs = append(pairs, 10*x+y)
		}
	}
	if want := []int{11, 21, 22, 31, 32, 33}; !slices.Equal(pairs, want) {
		t.Errorf("the inner one left early: %v, want %v", pairs, want)
	}
	pairs = nil
	for _, x := range all {
		r.Pop()
		r.Push(x + 3)
		for _, y := range all {
			pairs = append(pairs, 10*x+y)
		}
	}
	if want := []int{12, 13, 14, 23, 24, 25, 34, 35, 36}; !slices.Equal(pairs, want) {
		t.Errorf("with changes between: %v, want %v", pairs, want)
	}
	pairs = nil
outer:
	for _, x := range all {
		for _, y := range all {
			if x == 5 && y == 5 {
				break outer
			}
			pairs = append(pairs, 10*x+y)
		}
	}
	if want := []int{44, 45, 46, 54}; !slices.Equal(pairs, want) {
		t.Errorf("both left at once: %v, want %v", pairs, want)
	}
}

// P4.7: two ranges in turns, step by step, each over what there was as it began.
func TestRangesInTurns(t *testing.T) {
	r := made(t, 3, 1, 2, 3)
	first, stopFirst := iter.Pull2(r.All())
	defer stopFirst()
	second, stopSecond := iter.Pull2(r.All())
	defer stopSecond()
	step := func(next func() (int, int, bool), i, x int, ok bool) {
		t.Helper()
		if gotI, gotX, gotOk := next(); gotI != i || gotX != x || gotOk != ok {
			t.Errorf("a step gives %d, %d, %v, want %d, %d, %v", gotI, gotX, gotOk, i, x, ok)
		}
	}
	step(first, 0, 1, true)
	r.Take(2)
	r.Push(4)
	step(second, 0, 3, true)
	r.Take(2)
	step(first, 1, 2, true)
	step(second, 1, 4, true)
	step(second, 0, 0, false)
	step(first, 2, 3, true)
	step(first, 0, 0, false)
}
