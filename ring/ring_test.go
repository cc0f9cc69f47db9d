package ring_test

import (
	"math"
	"slices"
	"testing"

	"joust/api"
	"joust/ring"
)

// made is a ring of that size with those things.
func made[T any](t *testing.T, size int, things ...T) *ring.Ring[T] {
	t.Helper()
	r, e := ring.New[T](size)
	if e != api.OK || r == nil {
		t.Fatalf("New(%d): %v, %v", size, r, e)
	}
	for i, x := range things {
		if e := r.Push(x); e != api.OK {
			t.Fatalf("Push number %d into a ring of %d: %v", i, size, e)
		}
	}
	return r
}

// turned is a ring of that size with those things, whose first one does not lie where the first push lay.
func turned(t *testing.T, size, by int, things ...int) *ring.Ring[int] {
	t.Helper()
	r := made(t, size, slices.Repeat([]int{-1}, size)...)
	for range by {
		r.Pop()
		r.Push(-1)
	}
	r.Take(size)
	for _, x := range things {
		r.Push(x)
	}
	return r
}

// wantRow holds all that a ring tells without a change against the things that should be in it.
func wantRow[T comparable](t *testing.T, what string, r *ring.Ring[T], size int, want ...T) {
	t.Helper()
	if r.Len() != len(want) || r.Room() != size-len(want) {
		t.Fatalf("%s: Len %d, Room %d, want %d and %d", what, r.Len(), r.Room(), len(want), size-len(want))
	}
	for i, w := range want {
		if x, ok := r.At(i); x != w || !ok {
			t.Fatalf("%s: At(%d) = %v, %v, want %v", what, i, x, ok, w)
		}
	}
	for _, i := range []int{-1, len(want), len(want) + 1, -size, size, size + 1, math.MinInt, math.MinInt + 1, math.MaxInt, math.MaxInt - 1, 1 << 62, -1 << 62, 1 << 32} {
		if i >= 0 && i < len(want) {
			continue
		}
		var none T
		if x, ok := r.At(i); x != none || ok {
			t.Fatalf("%s: At(%d) = %v, %v, want none", what, i, x, ok)
		}
	}
	if l := ranged(t, r); !slices.Equal(l, want) {
		t.Fatalf("%s: All goes through %v, want %v", what, l, want)
	}
}

// ranged is what one range goes through; its numbers must be those from 0 on.
func ranged[T any](t *testing.T, r *ring.Ring[T]) []T {
	t.Helper()
	var l []T
	for i, x := range r.All() {
		if i != len(l) {
			t.Fatalf("All tells the number %d, want %d", i, len(l))
		}
		l = append(l, x)
	}
	return l
}

// P4.1: sizes that are none, at both bounds and far beyond them.
func TestNewRefuses(t *testing.T) {
	for _, size := range []int{0, -1, -2, -4096, api.MaxRing + 1, api.MaxRing + 2, 2 * api.MaxRing, 1 << 16, 1 << 32, 1<<32 + 1, 1 << 62, math.MaxInt, math.MinInt, math.MinInt + 1} {
		if r, e := ring.New[int](size); r != nil || e != api.ErrSize {
			t.Errorf("New[int](%d) = %v, %v, want nil and ErrSize", size, r, e)
		}
		if r, e := ring.New[struct{}](size); r != nil || e != api.ErrSize {
			t.Errorf("New[struct{}](%d) = %v, %v, want nil and ErrSize", size, r, e)
		}
	}
}

// P4.1, P4.2, P4.5: a ring of any size is without things at first, takes just that many, and refuses the next.
func TestNewHoldsItsSize(t *testing.T) {
	if api.MaxRing != 4096 {
		t.Fatalf("MaxRing is %d", api.MaxRing)
	}
	for _, size := range []int{1, 2, 3, 4, 5, 7, 8, 9, 63, 64, 65, 1000, 4095, 4096} {
		r := made[int](t, size)
		var want []int
		wantRow(t, "a new ring", r, size)
		for i := range size {
			if e := r.Push(i + 5); e != api.OK {
				t.Fatalf("push number %d into a ring of %d: %v", i, size, e)
			}
			want = append(want, i+5)
			if r.Len() != i+1 || r.Room() != size-i-1 {
				t.Fatalf("a ring of %d with %d: Len %d, Room %d", size, i+1, r.Len(), r.Room())
			}
		}
		for range 3 {
			if e := r.Push(-7); e != api.ErrFull {
				t.Fatalf("a push above a size of %d: %v, want ErrFull", size, e)
			}
			wantRow(t, "a full ring that refused", r, size, want...)
		}
	}
}

// P4.1 to P4.7: the chapter's examples, in their order.
func TestExamples(t *testing.T) {
	for _, size := range []int{0, 4097} {
		if r, e := ring.New[int](size); r != nil || e != api.ErrSize {
			t.Errorf("New[int](%d) = %v, %v", size, r, e)
		}
	}
	r := made(t, 3, 7, 8, 9)
	if e := r.Push(1); e != api.ErrFull {
		t.Errorf("the fourth push: %v", e)
	}
	wantRow(t, "three pushed", r, 3, 7, 8, 9)
	if x, ok := r.Pop(); x != 7 || !ok {
		t.Errorf("Pop = %d, %v", x, ok)
	}
	if e := r.Push(1); e != api.OK {
		t.Errorf("a push behind a pop: %v", e)
	}
	wantRow(t, "gone round", r, 3, 8, 9, 1)
	if l := r.Take(2); !slices.Equal(l, []int{8, 9}) || r.Len() != 1 {
		t.Errorf("Take(2) = %v, Len %d", l, r.Len())
	}
	if l := r.Take(5); !slices.Equal(l, []int{1}) {
		t.Errorf("Take(5) = %v", l)
	}
	if x, ok := r.Pop(); x != 0 || ok {
		t.Errorf("Pop of none = %d, %v", x, ok)
	}
	if l := r.Take(-1); len(l) != 0 {
		t.Errorf("Take(-1) = %v", l)
	}
	wantRow(t, "all taken", r, 3)
}

// P4.3: a pop ahead of the first push, and of a ring that was emptied, answers the zero value, changes nothing, and the ring goes on.
func TestPopOfNone(t *testing.T) {
	r := made[string](t, 2)
	for range 3 {
		if x, ok := r.Pop(); x != "" || ok {
			t.Errorf("Pop of a new ring = %q, %v", x, ok)
		}
	}
	wantRow(t, "popped while empty", r, 2)
	r.Push("a")
	r.Push("b")
	wantRow(t, "pushed then", r, 2, "a", "b")
	for _, want := range []string{"a", "b"} {
		if x, ok := r.Pop(); x != want || !ok {
			t.Errorf("Pop = %q, %v, want %q", x, ok, want)
		}
	}
	for range 3 {
		if x, ok := r.Pop(); x != "" || ok {
			t.Errorf("Pop of an emptied ring = %q, %v", x, ok)
		}
	}
	wantRow(t, "emptied", r, 2)
	r.Push("c")
	wantRow(t, "pushed again", r, 2, "c")
}

// P4.3, P4.4: a thing that is the zero value itself is a thing: it is told by true.
func TestZeroThings(t *testing.T) {
	r := made(t, 3, 0, 0)
	wantRow(t, "two zeros", r, 3, 0, 0)
	if x, ok := r.Pop(); x != 0 || !ok {
		t.Errorf("Pop of a zero = %d, %v", x, ok)
	}
	n := made[*int](t, 2, nil)
	if x, ok := n.At(0); x != nil || !ok {
		t.Errorf("At of a nil = %v, %v", x, ok)
	}
	if l := n.Take(2); len(l) != 1 || l[0] != nil {
		t.Errorf("Take of a nil = %v", l)
	}
	e := made(t, 2, struct{}{}, struct{}{})
	if e.Push(struct{}{}) != api.ErrFull || e.Len() != 2 || len(e.Take(1)) != 1 || e.Len() != 1 {
		t.Error("things without size are not counted")
	}
}

// P4.6: Take of every number, of rings that begin at every place; what it leaves stays in order.
func TestTake(t *testing.T) {
	things := []int{11, 12, 13, 14, 15}
	for size := 1; size <= len(things); size++ {
		for by := range 2 * size {
			for have := range size + 1 {
				for n := -2; n <= size+2; n++ {
					r := turned(t, size, by, things[:have]...)
					cut := max(0, min(n, have))
					if l := r.Take(n); !slices.Equal(l, things[:cut]) {
						t.Fatalf("Take(%d) of %v (size %d, turned by %d) = %v", n, things[:have], size, by, l)
					}
					wantRow(t, "behind Take", r, size, things[cut:have]...)
				}
			}
		}
	}
}

// P4.6: the numbers at the ends, of a ring with things and of one without.
func TestTakeOfEndNumbers(t *testing.T) {
	for _, n := range []int{0, -1, -4096, -1 << 32, -1 << 62, math.MinInt, math.MinInt + 1} {
		r := turned(t, 3, 2, 4, 5, 6)
		if l := r.Take(n); len(l) != 0 {
			t.Errorf("Take(%d) = %v", n, l)
		}
		wantRow(t, "behind Take of none", r, 3, 4, 5, 6)
		if l := made[int](t, 3).Take(n); len(l) != 0 {
			t.Errorf("Take(%d) of none = %v", n, l)
		}
	}
	for _, n := range []int{3, 4, 4096, 4097, 1 << 32, 1<<32 + 1, 1 << 62, math.MaxInt, math.MaxInt - 1} {
		r := turned(t, 3, 2, 4, 5, 6)
		if l := r.Take(n); !slices.Equal(l, []int{4, 5, 6}) {
			t.Errorf("Take(%d) = %v", n, l)
		}
		wantRow(t, "behind Take of all", r, 3)
		if l := made[int](t, 3).Take(n); len(l) != 0 {
			t.Errorf("Take(%d) of none = %v", n, l)
		}
	}
}

// P4.6: Take of the greatest ring, gone round.
func TestTakeOfTheGreatest(t *testing.T) {
	r := made[int](t, api.MaxRing)
	for i := range api.MaxRing {
		r.Push(i)
	}
	r.Take(1500)
	for i := range 1500 {
		r.Push(api.MaxRing + i)
	}
	if r.Push(-1) != api.ErrFull {
		t.Error("a push into the greatest ring, full again, is not refused")
	}
	l := r.Take(api.MaxRing)
	for i, x := range l {
		if x != 1500+i {
			t.Fatalf("thing %d of Take is %d, want %d", i, x, 1500+i)
		}
	}
	if len(l) != api.MaxRing || r.Len() != 0 || r.Room() != api.MaxRing {
		t.Errorf("%d taken, Len %d, Room %d", len(l), r.Len(), r.Room())
	}
}
