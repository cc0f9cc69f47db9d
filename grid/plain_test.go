package grid_test

import (
	"cmp"
	"math"
	"slices"
	"testing"

	"joust/api"
	"joust/grid"
	"joust/vec"
)

// dice give numbers that look like chance and are the same in every run.
type dice uint64

func (d *dice) word() uint64 {
	*d ^= *d << 13
	*d ^= *d >> 7
	*d ^= *d << 17
	return uint64(*d) * 0x2545f4914f6cdd1d
}

func (d *dice) below(n int) int { return int(d.word() >> 20 % uint64(n)) }

// about is a number at most wide away from another one, as far as there are numbers.
func (d *dice) about(x, wide int64) int64 {
	by := d.word() % (uint64(wide) + 1)
	if d.below(2) == 0 {
		return x - int64(min(by, uint64(x)-1<<63))
	}
	return x + int64(min(by, 1<<63-1-uint64(x)))
}

// scene is what a script of calls lies about: where its things are mostly, and how far from there.
type scene struct {
	middle api.Vec
	wide   int64
	ids    int
}

// scenes lie about 0, at borders, at the ends of int64, and are as small as a cell and as wide as all places.
func (d *dice) scene() scene {
	middles := []api.Vec{at(0, 0), at(0, 0), at(-1, 65536), at(1<<40, -1<<40), at(least, greatest), at(greatest, least), at(greatest, greatest), at(least, least), at(least+40, 0), at(-7, greatest-40)}
	return scene{middles[d.below(len(middles))], []int64{3, 20, 100, 1000, 65536, 1 << 22, 1 << 32, 1 << 45, greatest}[d.below(9)], []int{3, 40, 400}[d.below(3)]}
}

func (d *dice) place(s scene) api.Vec {
	switch d.below(40) {
	case 0:
		return places[d.below(len(places))]
	case 1:
		return at(int64(d.word())>>d.below(64), int64(d.word())>>d.below(64))
	}
	return at(d.about(s.middle.X, s.wide), d.about(s.middle.Y, s.wide))
}

func (d *dice) id(s scene) int {
	if d.below(40) == 0 {
		return numbers[d.below(len(numbers))]
	}
	return d.below(s.ids) - s.ids/3
}

// radius is mostly small against the scene, often as wide as it, now and then one at which something changes.
func (d *dice) radius(s scene) int64 {
	switch d.below(8) {
	case 0:
		return []int64{least, -1, 0, 1, reach - 1, reach, reach + 1, beyond - 1, beyond, beyond + 1, 1 << 40, greatest}[d.below(12)]
	case 1:
		return int64(d.word()>>1) >> d.below(63)
	case 2:
		return s.wide
	}
	return int64(d.word()>>1) % (s.wide/4 + 1)
}

func (d *dice) side() int64 {
	if d.below(2) == 0 {
		return sides[d.below(len(sides))]
	}
	return 1 + int64(d.word()>>1)%(1<<40)>>d.below(40)
}

// plain is a grid as the chapter tells it, without cells: things in the order in which they came.
type plain struct{ things []plainThing }

type plainThing struct {
	id int
	at api.Vec
}

func (p *plain) find(id int) int {
	return slices.IndexFunc(p.things, func(x plainThing) bool { return x.id == id })
}

func (p *plain) put(id int, at api.Vec) {
	p.delete(id)
	p.things = append(p.things, plainThing{id, at})
}

func (p *plain) delete(id int) bool {
	i := p.find(id)
	if i >= 0 {
		p.things = slices.Delete(p.things, i, i+1)
	}
	return i >= 0
}

func (p *plain) at(id int) (api.Vec, bool) {
	if i := p.find(id); i >= 0 {
		return p.things[i].at, true
	}
	return api.Vec{}, false
}

// within gives the things at most r away, by their ids.
func (p *plain) within(at api.Vec, r int64) []plainThing {
	var list []plainThing
	for _, x := range p.things {
		if vec.Within(x.at, at, r) {
			list = append(list, x)
		}
	}
	slices.SortFunc(list, func(a, b plainThing) int { return cmp.Compare(a.id, b.id) })
	return list
}

func (p *plain) near(at api.Vec, r int64) []int { return idsOf(p.within(at, r)) }

// nearest sorts those near once more: those equally far away stay as they rise.
func (p *plain) nearest(at api.Vec, r int64, n int) []int {
	list := p.within(at, r)
	slices.SortStableFunc(list, func(a, b plainThing) int { return cmp.Compare(vec.Dist2(at, a.at), vec.Dist2(at, b.at)) })
	if n < 0 {
		n = 0
	}
	if n < len(list) {
		list = list[:n]
	}
	return idsOf(list)
}

func idsOf(list []plainThing) []int {
	var ids []int
	for _, x := range list {
		ids = append(ids, x.id)
	}
	return ids
}

// count is 0 to a few mostly, and now and then any int.
func (d *dice) count() int {
	if d.below(10) == 0 {
		return int(d.word()) >> d.below(64)
	}
	return d.below(9) - 1
}

// anyCall does any call to two grids and to a plain list, and holds their answers against one another; it counts what was found.
func anyCall(t *testing.T, d *dice, s scene, grids []*grid.Grid, p *plain, found map[string]int) {
	t.Helper()
	id, place, r, n := d.id(s), d.place(s), d.radius(s), d.count()
	switch what := d.below(16); {
	case what < 8:
		p.put(id, place)
		for _, g := range grids {
			g.Put(id, place)
		}
	case what < 9:
		want := p.delete(id)
		for _, g := range grids {
			wantDelete(t, g, id, want)
		}
	case what < 11:
		want, there := p.at(id)
		for _, g := range grids {
			wantAt(t, g, id, want, there)
		}
	case what < 14:
		want := p.near(place, r)
		for _, g := range grids {
			wantNear(t, g, place, r, want...)
		}
		count(found, "near", len(want), len(p.things))
	default:
		want := p.nearest(place, r, n)
		for _, g := range grids {
			wantNearest(t, g, place, r, n, want...)
		}
		count(found, "nearest", len(want), len(p.things))
	}
	for _, g := range grids {
		wantLen(t, g, len(p.things))
	}
}

// count counts how often none, some and all of the things were told.
func count(found map[string]int, call string, told, all int) {
	switch told {
	case 0:
		found[call+" none"]++
	case all:
		found[call+" all"]++
	default:
		found[call+" some"]++
	}
}

// P20.2 to P20.5: any scripts of calls on two grids of any sides: the same answers, and those of a plain look at every thing.
func TestAnyCalls(t *testing.T) {
	scripts := 60
	if testing.Short() {
		scripts = 10
	}
	d := dice(88172645463325252)
	found := map[string]int{}
	for range scripts {
		s := d.scene()
		p := &plain{}
		grids := []*grid.Grid{made(t, d.side()), made(t, d.side())}
		for range 12 * s.ids {
			anyCall(t, &d, s, grids, p, found)
		}
		wantSame(t, grids, p)
	}
	for _, what := range []string{"near none", "near some", "near all", "nearest none", "nearest some", "nearest all"} {
		if found[what] < scripts/4 {
			t.Errorf("%s: %d times alone", what, found[what])
		}
	}
}

// wantSame asks two grids for all that they have.
func wantSame(t *testing.T, grids []*grid.Grid, p *plain) {
	t.Helper()
	for _, g := range grids {
		wantNear(t, g, at(0, 0), greatest, p.near(at(0, 0), greatest)...)
		wantNearest(t, g, at(5, -5), greatest, math.MaxInt, p.nearest(at(5, -5), greatest, math.MaxInt)...)
		for _, x := range p.things {
			wantAt(t, g, x.id, x.at, true)
		}
	}
}

// crowd lays many things about a place, and so close together that there are more of them than cells.
func crowd(d *dice, middle api.Vec, wide int64, many int, grids []*grid.Grid, p *plain) {
	for id := range many {
		place := at(d.about(middle.X, wide), d.about(middle.Y, wide))
		p.things = append(p.things, plainThing{id, place})
		for _, g := range grids {
			g.Put(id, place)
		}
	}
}

// P20.3 to P20.5: in crowds, about 0, at borders and at the ends of int64, with cells of all sizes from the smallest to one that has them all, from every place of a square that is wider than the crowd: as a plain look at every thing.
func TestCrowds(t *testing.T) {
	many, wide := 900, int64(7)
	if testing.Short() {
		many, wide = 450, 4
	}
	d := dice(521288629)
	for _, middle := range []api.Vec{at(0, 0), at(-65536, 65535), at(least, greatest), at(greatest, least), at(greatest-5, greatest-5), at(least+5, least+5), at(least, 0), at(1<<40, greatest)} {
		p := &plain{}
		var grids []*grid.Grid
		for _, side := range []int64{1, 2, 3, 4, 5, 8, 16, 65536, 1 << 40} {
			grids = append(grids, made(t, side))
		}
		crowd(&d, middle, wide, many, grids, p)
		for range 40 {
			place, r := at(d.about(middle.X, wide+3), d.about(middle.Y, wide+3)), int64(d.below(8))
			near := p.near(place, r)
			nearest := p.nearest(place, r, 9)
			for _, g := range grids {
				wantNear(t, g, place, r, near...)
				wantNearest(t, g, place, r, 9, nearest...)
			}
		}
	}
}

// P20.3: in a crowd with cells as wide as may be, r about 2^31 - 1: what is far away in one part is near from there on.
func TestCrowdsWithFarThings(t *testing.T) {
	d := dice(362436069)
	p := &plain{}
	grids := []*grid.Grid{made(t, 1<<40), made(t, 1<<33), made(t, reach)}
	crowd(&d, at(0, 0), 1<<31, 500, grids, p)
	far := []api.Vec{at(1<<45, 0), at(0, -1<<45), at(least, 3), at(9, greatest), at(1<<41, 1<<41)}
	for i, place := range far {
		p.put(-1-i, place)
		for _, g := range grids {
			g.Put(-1-i, place)
		}
	}
	for _, r := range []int64{1 << 28, reach - 2, reach - 1, reach, reach + 1, beyond - 1, beyond, 1 << 40, greatest} {
		for _, place := range append(far, at(0, 0), at(-5, 9), at(1<<31, -1<<31)) {
			want := p.near(place, r)
			for _, g := range grids {
				wantNear(t, g, place, r, want...)
			}
		}
	}
}
