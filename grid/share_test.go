package grid_test

import (
	"runtime"
	"slices"
	"testing"
	"unsafe"

	"joust/api"
	"joust/grid"
)

// room is a stretch of memory, from its first byte to the one behind its last.
type room struct{ from, to uintptr }

func roomOf(list []int) room {
	from := uintptr(unsafe.Pointer(unsafe.SliceData(list)))
	return room{from, from + uintptr(cap(list))*unsafe.Sizeof(0)}
}

// asked gives the lists of some questions, to which each answer is another one.
func asked(g *grid.Grid) [][]int {
	var lists [][]int
	for _, r := range []int64{-1, 0, 1, 5, 1000, greatest} {
		lists = append(lists, g.Near(at(0, 0), r), g.Near(at(3, 3), r))
		for _, n := range []int{-1, 0, 1, 2, 7, 1000} {
			lists = append(lists, g.Nearest(at(0, 0), r, n))
		}
	}
	return lists
}

func copies(lists [][]int) [][]int {
	var all [][]int
	for _, l := range lists {
		all = append(all, slices.Clone(l))
	}
	return all
}

// spoil writes over lists, their spare room too, and lengthens them.
func spoil(lists [][]int) {
	for _, l := range lists {
		l = l[:cap(l)]
		for i := range l {
			l[i] = -99
		}
		_ = append(l[:0], -98, -97)
	}
}

func filled(t *testing.T, side int64, many int) *grid.Grid {
	t.Helper()
	g := made(t, side)
	for i := range many {
		g.Put(i, at(int64(i%9), int64(i/9)))
	}
	return g
}

func wantLists(t *testing.T, what string, got, want [][]int) {
	t.Helper()
	if !slices.EqualFunc(got, want, slices.Equal) {
		t.Fatalf("%s: %v, want %v", what, got, want)
	}
}

// R11: what was answered may be written over and lengthened: no later answer tells of it.
func TestAnswersMayBeWrittenOver(t *testing.T) {
	for _, side := range []int64{1, 3, 1 << 40} {
		for _, many := range []int{0, 1, 5, 400} {
			g := filled(t, side, many)
			want := copies(asked(g))
			for range 3 {
				spoil(asked(g))
				wantLists(t, "written over", asked(g), want)
				wantLen(t, g, many)
				for i := range many {
					wantAt(t, g, i, at(int64(i%9), int64(i/9)), true)
				}
				wantAt(t, g, -99, api.Vec{}, false)
			}
		}
	}
}

// R11: what was answered changes by no later call.
func TestAnswersStay(t *testing.T) {
	for _, side := range []int64{1, 3, 1 << 40} {
		g := filled(t, side, 400)
		lists := asked(g)
		want := copies(lists)
		for i := range 400 {
			g.Put(i, at(int64(i), 0))
			g.Put(-i, at(0, 0))
			g.Delete(399 - i)
			if i%50 == 0 {
				spoil(asked(g))
			}
		}
		wantLists(t, "behind later calls", lists, want)
	}
}

// R11: no two lists that are answered have memory in common, their spare room neither.
func TestAnswersAreNew(t *testing.T) {
	g, h := filled(t, 2, 400), filled(t, 1<<30, 30)
	var kept [][]int
	for range 5 {
		kept = append(kept, asked(g)...)
		kept = append(kept, asked(h)...)
	}
	var rooms []room
	for _, l := range kept {
		if cap(l) > 0 {
			rooms = append(rooms, roomOf(l))
		}
	}
	slices.SortFunc(rooms, func(a, b room) int { return int(a.from) - int(b.from) })
	for i, x := range rooms[1:] {
		if x.from < rooms[i].to {
			t.Fatal("two lists share memory")
		}
	}
	if len(rooms) < 200 {
		t.Fatalf("%d lists with room alone", len(rooms))
	}
	runtime.KeepAlive(kept)
}
