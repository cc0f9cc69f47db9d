package board_test

import (
	"math/big"
	"testing"

	"joust/api"
	"joust/board"
)

// span is the places of a box along one way, as whole numbers without a bound.
type span struct{ first, last *big.Int }

func spanOf(place, half int64) span {
	p, h := big.NewInt(place), big.NewInt(half)
	if half < 1 {
		return span{p, p}
	}
	last := new(big.Int).Add(p, h)
	return span{new(big.Int).Sub(p, h), last.Sub(last, big.NewInt(1))}
}

// cells are the numbers of the first and the last cell that the span has a place of; ok is false where one of them lies outside.
func (s span) cells(n int) (first, last int, ok bool) {
	least, most := big.NewInt(0), big.NewInt(int64(n)*side-1)
	if s.first.Cmp(least) < 0 || s.last.Cmp(most) > 0 {
		return 0, 0, false
	}
	return int(s.first.Int64() / side), int(s.last.Int64() / side), true
}

// blocked goes through all cells, and asks of each wall whether the box has a place of it.
func (p plain) blocked(v api.Vec, half int64) bool {
	left, right, okX := spanOf(v.X, half).cells(len(p[0]))
	above, below, okY := spanOf(v.Y, half).cells(len(p))
	if !okX || !okY {
		return true
	}
	for y, line := range p {
		for x, cell := range line {
			if cell == '#' && x >= left && x <= right && y >= above && y <= below {
				return true
			}
		}
	}
	return false
}

// asked gives the places along one way that have to be asked of a box: both its ends, as far as an int64 tells them, and the first place of every cell between.
func asked(place, half int64, cells int) []int64 {
	s := spanOf(place, half)
	list := []int64{place}
	for _, end := range []*big.Int{s.first, s.last} {
		if end.IsInt64() {
			list = append(list, end.Int64())
		}
	}
	for i := -1; i <= cells; i++ {
		if n := big.NewInt(int64(i) * side); n.Cmp(s.first) >= 0 && n.Cmp(s.last) <= 0 {
			list = append(list, n.Int64())
		}
	}
	return list
}

// solid asks Solid of the box's places, one of each cell.
func solid(b *board.Board, v api.Vec, half int64) bool {
	wide, high := b.Size()
	xs, ys := asked(v.X, half, wide), asked(v.Y, half, high)
	for _, y := range ys {
		for _, x := range xs {
			if b.Solid(at(x, y)) {
				return true
			}
		}
	}
	return false
}

// box compares one box with the plain board, and with Solid of its places.
func box(t *testing.T, b *board.Board, p plain, v api.Vec, half int64) bool {
	t.Helper()
	got := b.Blocked(v, half)
	if want := p.blocked(v, half); got != want || solid(b, v, half) != want {
		t.Fatalf("%q: Blocked(%v, %d) = %v, Solid of one of its places %v, want %v", p.print(), v, half, got, solid(b, v, half), want)
	}
	return got
}

// P14.3: the chapter's examples and hard places.
func TestBoxExamples(t *testing.T) {
	b := parsed(t, example)
	for _, c := range []struct {
		p    api.Vec
		half int64
		want bool
	}{
		{at(786432, 786432), 262144, false}, {at(786432, 786432), 262145, true}, {at(786432, 786432), 1, false}, {at(786432, 786432), 1 << 62, true}, {at(786432, 786432), greatest, true}, {at(786432, 786432), least, false},
		{at(524288, 786432), 0, false}, {at(524288, 786432), 1, true}, {at(524288, 786432), -1, false}, {at(524289, 786432), 1, false}, {at(524289, 786432), 2, true},
		{at(786432, 524288), 0, false}, {at(786432, 524288), 1, true}, {at(786432, 524289), 1, false}, {at(786432, 524289), 2, true},
		{at(524287, 786432), 0, true}, {at(524287, 786432), -1, true}, {at(524287, 786432), least, true},
		{at(2097151, 786432), 0, false}, {at(2097151, 786432), 1, false}, {at(2097152, 786432), 0, true}, {at(2097152, 786432), 1, true}, {at(2097151, 786432), 2, true}, {at(2097150, 786432), 2, false}, {at(2097150, 786432), 3, true},
		{at(786432, 2097151), 1, false}, {at(786432, 2097151), 2, true}, {at(786432, 2097152), 1, true},
		{at(1310720, 1310720), 786432, false}, {at(1310720, 1310720), 786433, true}, {at(1310721, 1310720), 786432, true}, {at(1310720, 1310719), 786432, true},
		{at(0, 0), 0, true}, {at(0, 0), 1, true}, {at(-1, 786432), 0, true}, {at(786432, -1), 0, true}, {at(-1, -1), 1, true}, {at(2621439, 786432), 0, true}, {at(2621440, 786432), 0, true},
		{at(greatest, greatest), greatest, true}, {at(least, least), greatest, true}, {at(greatest, least), greatest, true}, {at(least, 786432), 1, true}, {at(786432, greatest), 1, true}, {at(greatest, 786432), 0, true}, {at(786432, least), least, true}, {at(1<<62, 1<<62), 1 << 62, true}, {at(-1<<62, 786432), 1 << 62, true},
	} {
		if got := b.Blocked(c.p, c.half); got != c.want {
			t.Errorf("Blocked(%v, %d) = %v, want %v", c.p, c.half, got, c.want)
		}
	}
}

// P14.3: a wall in the midst of a box, between free corners, above, below and beside the middle.
func TestWallWithinBox(t *testing.T) {
	for _, text := range []string{"#######\n#S...S#\n#..#..#\n#.....#\n#######", "#####\n#S..#\n#...#\n#.#.#\n#...#\n#...#\n#####", "#########\n#S......#\n#.#.....#\n#.......#\n#.......#\n#.....#.#\n#.......#\n#.......#\n#########"} {
		b := parsed(t, text)
		p, _ := plainParse(text)
		found := 0
		for y := int64(1); y < int64(len(p)); y++ {
			for x := int64(1); x < int64(len(p[0])); x++ {
				for n := int64(1); n < 9; n++ { // boxes of whole cells, whose ends are cells' ends
					v := at(x*side+n*half, y*side+n*half)
					corners := b.Solid(at(v.X-n*half, v.Y-n*half)) || b.Solid(at(v.X+n*half-1, v.Y-n*half)) || b.Solid(at(v.X-n*half, v.Y+n*half-1)) || b.Solid(at(v.X+n*half-1, v.Y+n*half-1))
					if box(t, b, p, v, n*half) && !corners {
						found++
					}
				}
			}
		}
		if found == 0 {
			t.Errorf("%q: no box has a wall between free corners", text)
		}
	}
	b := parsed(t, "#######\n#S...S#\n#..#..#\n#.....#\n#######")
	if !b.Blocked(at(1835008, 1310720), 786432) || b.Blocked(at(1835008, 786432), 262144) {
		t.Error("the wall in the midst of the box is missed, or told of another box")
	}
}

// P14.3: all places of a box, one by one, where cells meet.
func TestBoxesPlaceByPlace(t *testing.T) {
	for _, text := range []string{example, "#######\n#S...S#\n#..#..#\n#.....#\n#######", "###\n#S#\n###"} {
		b := parsed(t, text)
		wide, high := b.Size()
		for y := range int64(high) + 1 {
			for x := range int64(wide) + 1 {
				for dy := int64(-4); dy <= 4; dy++ {
					for dx := int64(-4); dx <= 4; dx++ {
						placeByPlace(t, b, at(x*side+dx, y*side+dy))
					}
				}
			}
		}
	}
}

func placeByPlace(t *testing.T, b *board.Board, v api.Vec) {
	t.Helper()
	for half := int64(-1); half <= 5; half++ {
		want := half < 1 && b.Solid(v)
		for y := v.Y - half; y <= v.Y+half-1 && !want; y++ {
			for x := v.X - half; x <= v.X+half-1 && !want; x++ {
				want = b.Solid(at(x, y))
			}
		}
		if got := b.Blocked(v, half); got != want {
			t.Fatalf("%q: Blocked(%v, %d) = %v, want %v", b.Print(), v, half, got, want)
		}
	}
}

// halves gives those at and about 0, cells and half cells of every number, every power of two, both ends of int64.
func halves() []int64 {
	list := []int64{0, least, least + 1, -1, greatest, greatest - 1, 98303, 98304, 98305}
	for i := range int64(130) {
		list = append(list, i*half-1, i*half, i*half+1)
	}
	for i := range 63 {
		n := int64(1) << i
		list = append(list, n-1, n, n+1, -n)
	}
	return list
}

// P14.3: boxes of every size about places of every kind, against the walls that have a place of them.
func TestBoxesOfEverySize(t *testing.T) {
	sizes := halves()
	for i, text := range boards() {
		b := parsed(t, text)
		p, _ := plainParse(text)
		d := dice(88675123 + i)
		xs, ys := edges(len(p[0])), edges(len(p))
		open := 0
		for range 4000 {
			v := at(xs[d.below(len(xs))], ys[d.below(len(ys))])
			if d.below(2) == 0 {
				v = at(int64(d.below(len(p[0])*side)), int64(d.below(len(p)*side)))
			}
			size := sizes[d.below(len(sizes))]
			if d.below(4) == 0 {
				size = d.sized()
			}
			if !box(t, b, p, v, size) {
				open++
			}
		}
		if open < 10 {
			t.Errorf("%q: only %d boxes are open", text, open)
		}
	}
}

// P14.3: boxes about places far off, both of whose parts end on the board or beside it, while their other ends may lie beyond an int64.
func TestBoxesFromAfar(t *testing.T) {
	b := parsed(t, example)
	p, _ := plainParse(example)
	for _, n := range edges(5) {
		for i := int64(-1); i <= 6; i++ {
			for _, end := range []int64{i*side - 1, i * side, i*side + half} {
				for _, size := range []int64{end - n, end - n + 1, n - end} { // which may wrap round: then it is a size of any kind
					box(t, b, p, at(n, n), size)
					box(t, b, p, at(n, side+half), size)
					box(t, b, p, at(side+half, n), size)
				}
			}
		}
	}
}

// P14.3: about every cell's middle, the half from which on the box is blocked; there, one below and one above it; and no greater one is open.
func TestGreaterBoxes(t *testing.T) {
	for _, text := range boards() {
		b := parsed(t, text)
		p, _ := plainParse(text)
		for y := range len(p) {
			for x := range len(p[0]) {
				greater(t, b, p, at(int64(x)*side+half, int64(y)*side+half))
				greater(t, b, p, at(int64(x)*side+half+77, int64(y)*side+1000))
			}
		}
	}
}

func greater(t *testing.T, b *board.Board, p plain, v api.Vec) {
	t.Helper()
	open, blocked := int64(0), int64(64*side)
	if b.Solid(v) != b.Blocked(v, 0) || b.Solid(v) != b.Blocked(v, -7) {
		t.Fatalf("%q: Blocked(%v, 0) is not Solid", p.print(), v)
	}
	if b.Solid(v) {
		for _, n := range []int64{1, 2, half, side, 1 << 40, greatest} {
			if !b.Blocked(v, n) {
				t.Fatalf("%q: Blocked(%v, %d) is false, and Solid true", p.print(), v, n)
			}
		}
		return
	}
	for blocked-open > 1 {
		if n := (open + blocked) / 2; b.Blocked(v, n) {
			blocked = n
		} else {
			open = n
		}
	}
	if p.blocked(v, open) || !p.blocked(v, blocked) {
		t.Fatalf("%q: boxes about %v are blocked from the half %d on", p.print(), v, blocked)
	}
	for n := blocked; n > 0; n = n*3 + 1 { // till it wraps round
		if !b.Blocked(v, n) {
			t.Fatalf("%q: Blocked(%v, %d) is false, and a lesser box blocked", p.print(), v, n)
		}
	}
	for n := open; n > 0; n /= 2 {
		if b.Blocked(v, n) {
			t.Fatalf("%q: Blocked(%v, %d), and a greater box is not", p.print(), v, n)
		}
	}
}

// P14.3: a box that is moved within a greater one.
func TestBoxesWithinBoxes(t *testing.T) {
	d := dice(521288629)
	for _, text := range boards() {
		b := parsed(t, text)
		wide, high := b.Size()
		for range 2000 {
			outer := 1 + int64(d.below(3*side))
			inner := 1 + int64(d.below(int(outer)))
			v := at(int64(d.below(wide*side)), int64(d.below(high*side)))
			room := int(outer - inner)
			w := at(v.X-int64(room)+int64(d.below(2*room+1)), v.Y-int64(room)+int64(d.below(2*room+1)))
			if b.Blocked(w, inner) && !b.Blocked(v, outer) {
				t.Fatalf("%q: Blocked(%v, %d), but not Blocked(%v, %d)", text, w, inner, v, outer)
			}
		}
	}
}
