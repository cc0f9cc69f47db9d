package grid_test

import (
	"runtime"
	"testing"
	"time"

	"joust/api"
	"joust/grid"
)

// atOnce asks that something ends long before going over cells without end would.
func atOnce(t *testing.T, what string, f func()) {
	t.Helper()
	done := make(chan bool)
	go func() {
		defer close(done)
		f()
	}()
	select {
	case <-done:
	case <-time.After(20 * time.Second):
		t.Fatalf("%s has no end", what)
	}
}

// wide are radii that reach over more small cells than can be gone over.
var wide = []int64{1 << 20, 1 << 24, 1 << 30, reach - 1, reach, reach + 1, beyond, 1 << 32, 1 << 40, 1 << 62, greatest - 1, greatest}

// P20.6: without things, whatever the side and r.
func TestAtOnceWithoutThings(t *testing.T) {
	for _, side := range sides {
		atOnce(t, "a grid without things", func() {
			g, _ := grid.New(side)
			for range 1000 {
				for _, r := range wide {
					for _, p := range []api.Vec{at(0, 0), at(least, greatest)} {
						if len(g.Near(p, r)) != 0 || len(g.Nearest(p, r, 5)) != 0 {
							t.Error("something is near")
						}
					}
				}
			}
		})
	}
}

// P20.6: with things far apart, few and many, whatever the side and r; in one part r may reach over one cell alone.
func TestAtOnceFarApart(t *testing.T) {
	for _, many := range []int{1, 4, 50, 3000} {
		for _, side := range sides {
			atOnce(t, "a grid of things far apart", func() {
				g, _ := grid.New(side)
				for i := range many {
					g.Put(i, at(int64(i)*(1<<50)-1<<61, int64(-i)*(1<<49)))
				}
				for _, r := range wide {
					if l := g.Near(at(least, greatest), r); len(l) > many || r >= beyond && len(l) != many {
						t.Errorf("Near of %d: %d things", r, len(l))
					}
					g.Nearest(at(0, 0), r, 3)
				}
			})
		}
	}
}

// P20.6: a thing that drives through many cells, and a crowd that came and went: what was there costs nothing any more.
func TestAtOnceBehindOthers(t *testing.T) {
	atOnce(t, "a grid that things have left", func() {
		g, _ := grid.New(1)
		for i := range 200000 {
			g.Put(7, at(int64(i)*3, -int64(i)))
			g.Put(i+10, at(int64(i), int64(i)))
		}
		for i := range 200000 {
			g.Delete(i + 10)
		}
		for range 100000 {
			if len(g.Near(at(0, 0), greatest)) != 1 || len(g.Nearest(at(0, 0), greatest, 2)) != 1 || len(g.Near(at(0, 0), 5)) != 0 {
				t.Error("one thing is there")
			}
		}
	})
}

// P20.6: in one place lie so many that a search among them at every Put and Delete would be felt.
func TestAtOnceInOnePlace(t *testing.T) {
	for _, side := range []int64{1, 65536, 1 << 40} {
		atOnce(t, "a crowd in one place", func() {
			g, _ := grid.New(side)
			for range 3 {
				for i := range 300000 {
					g.Put(i, at(5, -5))
				}
			}
			for i := range 300000 {
				if !g.Delete(i) {
					t.Errorf("Delete(%d)", i)
				}
			}
			if g.Len() != 0 {
				t.Errorf("Len: %d", g.Len())
			}
		})
	}
}

// took is how long something takes: the shortest of some times, as the others were held up.
func took(f func()) time.Duration {
	best := time.Duration(greatest)
	for range 5 {
		begin := time.Now()
		f()
		best = min(best, time.Since(begin))
	}
	return best
}

// Those near a place are found without looking at all: of very many things, few near ones take a small part of the time of all.
func TestFoundWithoutLookingAtAll(t *testing.T) {
	g := made(t, 65536)
	const line = 400
	for i := range line * line {
		g.Put(i, at(int64(i%line)<<16, int64(i/line)<<16))
	}
	few := func() {
		if l := g.Near(at(200<<16, 200<<16), 1<<17); len(l) != 13 {
			t.Fatalf("%v are near", l)
		}
	}
	all := func() { g.Near(at(200<<16, 200<<16), 1<<29) }
	if a, b := took(few), took(all); a > b/20 {
		t.Errorf("13 of %d are found in %v, all in %v", line*line, a, b)
	}
}

// P20.6: however many cells there are about a place, to find the few things in them takes no longer than going over all things does, by far.
func TestNoLongerThanAll(t *testing.T) {
	g := made(t, 1)
	const many = 160000
	for i := range many {
		g.Put(i, at(int64(i)*5000, 0))
	}
	all := took(func() { g.Near(at(0, 0), greatest) })
	for _, r := range []int64{40, 400, 4990, 40000} {
		few := took(func() {
			if l := g.Near(at(0, 0), r); len(l) != int(r/5000)+1 {
				t.Fatalf("Near of %d: %d things", r, len(l))
			}
		})
		if few > 5*all {
			t.Errorf("Near of %d takes %v, all take %v", r, few, all)
		}
	}
}

// heap is how much memory is in use.
func heap() int64 {
	runtime.GC()
	var m runtime.MemStats
	runtime.ReadMemStats(&m)
	return int64(m.HeapAlloc)
}

// What is gone is not kept: neither the cells behind a thing that drives on, nor things that were deleted.
func TestNothingIsKept(t *testing.T) {
	g := made(t, 1)
	ahead := heap()
	for i := range 200000 {
		g.Put(7, at(int64(i), -int64(i)))
	}
	if more := heap() - ahead; more > 1<<20 {
		t.Errorf("a thing that drives on takes %d bytes", more)
	}
	const many = 100000
	for i := range many {
		g.Put(i, at(0, 0))
	}
	full := heap()
	for i := range many {
		g.Delete(many - 1 - i)
	}
	if freed := full - heap(); freed < many*24 {
		t.Errorf("%d things that were deleted free %d bytes", many, freed)
	}
	runtime.KeepAlive(g)
}
