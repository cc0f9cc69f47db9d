package ring_test

import (
	"runtime"
	"slices"
	"testing"
	"weak"

	"joust/api"
	"joust/ring"
)

// dice is a row of numbers that look like chance and are the same in each run.
type dice uint64

func (d *dice) below(n int) int {
	*d ^= *d << 13
	*d ^= *d >> 7
	*d ^= *d << 17
	return int(uint64(*d) % uint64(n))
}

// P4.8 (P4.2 to P4.7 with it): long runs of all calls, round and round, against a plain list; in turns the ring is led to be full and to be empty.
func TestAgainstAPlainList(t *testing.T) {
	for _, size := range []int{1, 2, 3, 5, 8, 13, 64, 100} {
		d := dice(size * 7919)
		r := made[int](t, size)
		var list []int
		next := 1
		for step := range 6000 {
			pushes := 3 + 4*(step/(8*size)%2)
			switch c := d.below(10); {
			case c < pushes:
				e := r.Push(next)
				if want := len(list) < size; want != (e == api.OK) || !want && e != api.ErrFull {
					t.Fatalf("size %d, step %d: Push with %d there: %v", size, step, len(list), e)
				}
				if e == api.OK {
					list = append(list, next)
				}
				next++
			case c < 9:
				x, ok := r.Pop()
				if ok != (len(list) > 0) || ok && x != list[0] || !ok && x != 0 {
					t.Fatalf("size %d, step %d: Pop = %d, %v of %v", size, step, x, ok, list)
				}
				list = list[min(1, len(list)):]
			default:
				n := d.below(size+3) - 1
				cut := max(0, min(n, len(list)))
				if l := r.Take(n); !slices.Equal(l, list[:cut]) {
					t.Fatalf("size %d, step %d: Take(%d) = %v of %v", size, step, n, l, list)
				}
				list = list[cut:]
			}
			wantRow(t, "a long run", r, size, list...)
		}
	}
}

// P4.8: the greatest ring, round many times, each time another part of it: all that was not refused comes out, once, in order.
func TestRoundAndRound(t *testing.T) {
	r := made[int](t, api.MaxRing)
	d := dice(4096)
	pushed, popped, refused := 0, 0, 0
	for range 400 {
		for range d.below(2 * api.MaxRing) {
			if r.Push(pushed) == api.OK {
				pushed++
			} else {
				refused++
			}
		}
		for range d.below(api.MaxRing) {
			if x, ok := r.Pop(); ok && x != popped {
				t.Fatalf("Pop = %d, want %d", x, popped)
			} else if ok {
				popped++
			}
		}
		for _, x := range r.Take(d.below(api.MaxRing)) {
			if x != popped {
				t.Fatalf("Take has %d, want %d", x, popped)
			}
			popped++
		}
		if r.Len() != pushed-popped || r.Room() != api.MaxRing-r.Len() {
			t.Fatalf("Len %d, Room %d, want Len %d", r.Len(), r.Room(), pushed-popped)
		}
	}
	if refused == 0 || pushed < 20*api.MaxRing {
		t.Fatalf("the run asks too little: %d pushed, %d refused", pushed, refused)
	}
}

// P4.9: two rings, and one of another size and kind, in turns: what one is told, the others do not tell.
func TestRingsApart(t *testing.T) {
	a, b := made[int](t, 3), made[int](t, 3)
	c := made[string](t, 2)
	a.Push(1)
	wantRow(t, "b", b, 3)
	b.Push(2)
	c.Push("x")
	a.Push(3)
	wantRow(t, "a", a, 3, 1, 3)
	wantRow(t, "b", b, 3, 2)
	b.Push(4)
	b.Push(5)
	if b.Push(6) != api.ErrFull || a.Push(6) != api.OK {
		t.Error("one full ring is not the other's business")
	}
	a.Pop()
	for range a.All() {
		b.Pop()
	}
	wantRow(t, "a", a, 3, 3, 6)
	wantRow(t, "b", b, 3, 5)
	wantRow(t, "c", c, 2, "x")
	b.Take(3)
	b.Push(7)
	wantRow(t, "a", a, 3, 3, 6)
	wantRow(t, "b", b, 3, 7)
}

// P4.9: things are handed on as they are: pointers, lists and maps are those that were pushed, not copies; values are copied as values are.
func TestThingsAsTheyAre(t *testing.T) {
	n, m := new(int), new(int)
	p := made(t, 2, n, m)
	if x, _ := p.At(1); x != m {
		t.Error("At gives another pointer")
	}
	for i, x := range p.All() {
		if x != []*int{n, m}[i] {
			t.Error("All gives another pointer")
		}
	}
	if x, _ := p.Pop(); x != n {
		t.Error("Pop gives another pointer")
	}
	if l := p.Take(1); l[0] != m {
		t.Error("Take gives another pointer")
	}
	list := []int{1, 2, 3}
	s := made(t, 2, list[:2])
	if x, _ := s.At(0); len(x) != 2 || cap(x) != 3 || &x[0] != &list[0] {
		t.Error("At gives another list")
	}
	if x := s.Take(1)[0]; len(x) != 2 || cap(x) != 3 || &x[0] != &list[0] {
		t.Error("Take gives another list")
	}
	array := [2]int{1, 2}
	v := made(t, 1, array)
	array[0] = 9
	x, _ := v.At(0)
	x[1] = 9
	wantRow(t, "an array changed outside", v, 1, [2]int{1, 2})
	y := any(3)
	if z, _ := made(t, 1, y).Pop(); z != y {
		t.Errorf("Pop gives %v", z)
	}
}

// P4.9 (R11): a list that Take gave stays as it is, its spare room too, when the ring goes on; and the ring when the list is changed.
func TestTakenListsAreTheirOwn(t *testing.T) {
	for by := range 5 {
		for n := 1; n <= 4; n++ {
			r := turned(t, 4, by, 1, 2, 3, 4)
			l := r.Take(n)
			spare := slices.Clone(l[:cap(l)])
			for r.Room() > 0 {
				r.Push(50)
			}
			if !slices.Equal(l[:cap(l)], spare) || !slices.Equal(l, []int{1, 2, 3, 4}[:n]) {
				t.Fatalf("a list of Take changed with the ring: %v", l)
			}
			want := append([]int{1, 2, 3, 4}[n:4:4], slices.Repeat([]int{50}, n)...)
			for i := range l[:cap(l)] {
				l[:cap(l)][i] = -1
			}
			wantRow(t, "a list of Take was changed", r, 4, want...)
			other := r.Take(2)
			l = append(l, -2, -3)
			if !slices.Equal(other, want[:2]) {
				t.Fatalf("two lists of Take share memory: %v, want %v", other, want[:2])
			}
			wantRow(t, "a list of Take grew", r, 4, want[2:]...)
			last := r.Take(9)
			other = append(other, -4, -5, -6)
			if !slices.Equal(last, want[2:]) {
				t.Fatalf("two lists of Take share memory: %v, want %v", last, want[2:])
			}
		}
	}
}

// P4.3, P4.6: what was popped or taken is there no more, not even as memory that the ring keeps from being freed; what waits stays.
func TestNothingIsKept(t *testing.T) {
	r := made[*[64]int](t, 4)
	var weaks []weak.Pointer[[64]int]
	for range 4 {
		x := new([64]int)
		weaks = append(weaks, weak.Make(x))
		r.Push(x)
	}
	r.Pop()
	r.Take(2)
	for range r.All() {
	}
	runtime.GC()
	for i, w := range weaks {
		if alive := w.Value() != nil; alive != (i == 3) {
			t.Errorf("thing number %d: alive is %v", i, alive)
		}
	}
	if x, ok := r.Pop(); !ok || x == nil {
		t.Error("the thing that waited is gone")
	}
}

// P4.1 (R11): a ring of great things and the greatest size is made without room for all of them: it cannot fail for want of memory.
func TestNewOfGreatThings(t *testing.T) {
	var ahead, behind runtime.MemStats
	runtime.ReadMemStats(&ahead)
	r, e := ring.New[[1 << 20]byte](api.MaxRing)
	runtime.ReadMemStats(&behind)
	if e != api.OK || r.Room() != api.MaxRing {
		t.Fatalf("New: %v", e)
	}
	if took := behind.TotalAlloc - ahead.TotalAlloc; took > 1<<24 {
		t.Errorf("New took %d bytes", took)
	}
}
