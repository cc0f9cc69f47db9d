package board_test

import (
	"math"
	"slices"
	"strings"
	"testing"
	"unicode/utf8"

	"joust/api"
	"joust/board"
)

const (
	least    = math.MinInt64
	greatest = math.MaxInt64
	side     = 524288 // of a cell
	half     = 262144 // of a cell
	example  = "#####\n#S.E#\n#...#\n#A.S#\n#####\n"
)

func at(x, y int64) api.Vec { return api.Vec{X: x, Y: y} }

func parsed(t *testing.T, text string) *board.Board {
	t.Helper()
	b, e := board.Parse(text)
	if e != api.OK || b == nil {
		t.Fatalf("Parse(%q) = %v, %v, want a board", text, b, e)
	}
	return b
}

// refused asks for an error, and for no board beside it.
func refused(t *testing.T, text string, want api.Errno) {
	t.Helper()
	if b, e := board.Parse(text); b != nil || e != want {
		t.Errorf("Parse(%q) = %v, %v, want nil, %v", text, b, e, want)
	}
}

// plain is a board as the chapter says it: the lines of its Print.
type plain []string

// split takes a text apart into lines of runes.
func split(text string) []string {
	text, ended := strings.CutSuffix(text, "\n")
	if text == "" && !ended {
		return nil
	}
	return strings.Split(text, "\n")
}

// plainParse reads a text step by step: the runes, the lines, the rim, the spawns.
func plainParse(text string) (plain, api.Errno) {
	lines := split(text)
	if len(lines) < 3 || len(lines) > 64 {
		return nil, api.ErrBoard
	}
	width := utf8.RuneCountInString(lines[0])
	if width < 3 || width > 64 {
		return nil, api.ErrBoard
	}
	spawns := 0
	for y, line := range lines {
		if !utf8.ValidString(line) || utf8.RuneCountInString(line) != width || strings.ContainsFunc(line, foreign) {
			return nil, api.ErrBoard
		}
		cells := []byte(strings.NewReplacer("\u2588", "#", " ", ".").Replace(line))
		for x := range cells {
			if x == 0 || y == 0 || x == width-1 || y == len(lines)-1 {
				cells[x] = '#'
			}
		}
		spawns += strings.Count(string(cells), "S")
		lines[y] = string(cells)
	}
	if spawns == 0 {
		return nil, api.ErrPlace
	}
	return lines, api.OK
}

func foreign(r rune) bool { return !strings.ContainsRune("#\u2588. SEA", r) }

func (p plain) print() string { return strings.Join(p, "\n") + "\n" }

func (p plain) cell(x, y int) rune {
	if x < 0 || y < 0 || y >= len(p) || x >= len(p[0]) {
		return '#'
	}
	return rune(p[y][x])
}

func (p plain) at(v api.Vec) rune { return p.cell(int(down(v.X)), int(down(v.Y))) }

// down is the number of the cell in which a place lies: the quotient, rounded down.
func down(n int64) int64 {
	if n%side < 0 {
		return n/side - 1
	}
	return n / side
}

func (p plain) spawns() []api.Vec {
	var list []api.Vec
	for y, line := range p {
		for x, cell := range line {
			if cell == 'S' {
				list = append(list, at(int64(x)*side+half, int64(y)*side+half))
			}
		}
	}
	return list
}

// same asks for a board which answers as the plain one does, in all its cells and one place of each.
func same(t *testing.T, text string, b *board.Board, p plain) {
	t.Helper()
	if got := b.Print(); got != p.print() {
		t.Errorf("Parse(%q).Print() = %q, want %q", text, got, p.print())
	}
	if w, h := b.Size(); w != len(p[0]) || h != len(p) {
		t.Errorf("Parse(%q).Size() = %d, %d, want %d, %d", text, w, h, len(p[0]), len(p))
	}
	if got := b.Spawns(); !slices.Equal(got, p.spawns()) {
		t.Errorf("Parse(%q).Spawns() = %v, want %v", text, got, p.spawns())
	}
	for y := -2; y <= len(p)+1; y++ {
		for x := -2; x <= len(p[0])+1; x++ {
			want := p.cell(x, y)
			place := at(int64(x)*side+half, int64(y)*side+half)
			if b.Cell(x, y) != want || b.At(place) != want || b.Solid(place) != (want == '#') {
				t.Fatalf("Parse(%q): Cell(%d, %d) = %c, At(%v) = %c, Solid = %v, want %c", text, x, y, b.Cell(x, y), place, b.At(place), b.Solid(place), want)
			}
		}
	}
}

// compare parses a text both ways.
func compare(t *testing.T, text string) {
	t.Helper()
	p, want := plainParse(text)
	if want != api.OK {
		refused(t, text, want)
		return
	}
	same(t, text, parsed(t, text), p)
}

// dice gives numbers that follow no rule a program could be after, the same ones always.
type dice uint64

func (d *dice) next() int64 {
	x := uint64(*d)
	x ^= x << 13
	x ^= x >> 7
	x ^= x << 17
	*d = dice(x)
	return int64(x)
}

// below gives a number from 0 to n - 1.
func (d *dice) below(n int) int { return int(uint64(d.next()) % uint64(n)) }

// sized gives a number of any size.
func (d *dice) sized() int64 { return d.next() >> (uint64(d.next()) % 64) }

// text gives one of so many lines and runes, with a spawn inside; walls are as often as one in so many.
func (d *dice) text(wide, high, walls int) string {
	runes := []string{".", " ", "S", "E", "A", ".", "."}
	spawnX, spawnY := 1+d.below(wide-2), 1+d.below(high-2)
	var text strings.Builder
	for y := range high {
		for x := range wide {
			switch {
			case x == spawnX && y == spawnY:
				text.WriteString("S")
			case d.below(walls) == 0:
				text.WriteString([]string{"#", "\u2588"}[d.below(2)])
			default:
				text.WriteString(runes[d.below(len(runes))])
			}
		}
		text.WriteString("\n")
	}
	return text.String()
}

// boards gives texts of some boards: those of the chapter, the least and the greatest ones, and some of any cells.
func boards() []string {
	list := []string{
		example,
		"###\n#S#\n###\n",
		"SSS\nSSS\nSSS",
		"\u2588##\n#S \n###",
		"#######\n#S...S#\n#..#..#\n#.....#\n#######",
		"     \n S.S \n  #  \n S.S \n     ",
	}
	d := dice(88172645463325252)
	for _, size := range [][2]int{{3, 3}, {3, 64}, {64, 3}, {64, 64}, {63, 64}, {4, 5}, {5, 4}, {8, 8}, {17, 9}, {9, 17}} {
		list = append(list, d.text(size[0], size[1], 4), d.text(size[0], size[1], 40), d.text(size[0], size[1], 4000))
	}
	return list
}

// P14.1: the chapter's examples of cells and places.
func TestExampleBoard(t *testing.T) {
	b := parsed(t, example)
	if w, h := b.Size(); w != 5 || h != 5 {
		t.Errorf("Size() = %d, %d", w, h)
	}
	if got := b.Print(); got != example {
		t.Errorf("Print() = %q", got)
	}
	for _, c := range []struct {
		x, y int
		want rune
	}{{1, 1, 'S'}, {3, 1, 'E'}, {1, 3, 'A'}, {3, 3, 'S'}, {2, 2, '.'}, {2, 1, '.'}, {0, 0, '#'}, {4, 4, '#'}, {-1, 2, '#'}, {5, 2, '#'}, {2, -1, '#'}, {2, 5, '#'}} {
		if got := b.Cell(c.x, c.y); got != c.want {
			t.Errorf("Cell(%d, %d) = %c, want %c", c.x, c.y, got, c.want)
		}
	}
	for _, c := range []struct {
		p    api.Vec
		want rune
	}{
		{at(524288, 524288), 'S'}, {at(524287, 524288), '#'}, {at(524288, 524287), '#'}, {at(1048575, 1048575), 'S'}, {at(1048576, 1048576), '.'},
		{at(1835008, 786432), 'E'}, {at(786432, 1835008), 'A'}, {at(1572864, 1048575), 'E'}, {at(1572863, 1048575), '.'}, {at(2097151, 786432), 'E'}, {at(2097152, 786432), '#'},
		{at(-1, 0), '#'}, {at(0, -1), '#'}, {at(-1, 786432), '#'}, {at(786432, -1), '#'}, {at(0, 0), '#'}, {at(least, least), '#'}, {at(greatest, 786432), '#'},
	} {
		if got := b.At(c.p); got != c.want || b.Solid(c.p) != (c.want == '#') {
			t.Errorf("At(%v) = %c, Solid = %v, want %c", c.p, got, b.Solid(c.p), c.want)
		}
	}
	if b.Solid(at(1048576, 1048576)) {
		t.Error("Solid(1048576, 1048576)")
	}
}

// P14.1: X and Y, width and height are not mixed up.
func TestLongAndFlat(t *testing.T) {
	flat := parsed(t, "######\n#AES #\n######")
	if w, h := flat.Size(); w != 6 || h != 3 {
		t.Errorf("Size() = %d, %d, want 6, 3", w, h)
	}
	if got := []rune{flat.Cell(1, 1), flat.Cell(2, 1), flat.Cell(3, 1), flat.Cell(4, 1), flat.Cell(1, 2)}; string(got) != "AES.#" {
		t.Errorf("cells %q, want AES.#", string(got))
	}
	if got := flat.Spawns(); !slices.Equal(got, []api.Vec{at(3*side+half, side+half)}) {
		t.Errorf("Spawns() = %v", got)
	}
	long := parsed(t, "###\n#E#\n#A#\n# #\n#S#\n###\n")
	if w, h := long.Size(); w != 3 || h != 6 {
		t.Errorf("Size() = %d, %d, want 3, 6", w, h)
	}
	if got := []rune{long.Cell(1, 1), long.Cell(1, 2), long.Cell(1, 3), long.Cell(1, 4), long.Cell(2, 1)}; string(got) != "EA.S#" {
		t.Errorf("cells %q, want EA.S#", string(got))
	}
	if got := long.Spawns(); !slices.Equal(got, []api.Vec{at(side+half, 4*side+half)}) {
		t.Errorf("Spawns() = %v", got)
	}
}

// P14.1: cells inside, on the rim, just outside, far off, and at both ends of int.
func TestCells(t *testing.T) {
	far := []int{math.MinInt, math.MinInt + 1, -1 << 32, -1<<31 - 1, -256, -64, 64, 65, 128, 255, 256, 257, 1 << 16, 1<<31 - 1, 1<<32 + 1, 1<<32 + 2, math.MaxInt - 1, math.MaxInt}
	for _, text := range boards() {
		b := parsed(t, text)
		p, _ := plainParse(text)
		same(t, text, b, p)
		for _, n := range far {
			for i := -1; i <= 64; i++ {
				if b.Cell(n, i) != p.cell(n, i) || b.Cell(i, n) != p.cell(i, n) {
					t.Fatalf("Parse(%q): Cell of %d and %d: %c and %c", text, n, i, b.Cell(n, i), b.Cell(i, n))
				}
			}
			for _, m := range far {
				if b.Cell(n, m) != p.cell(n, m) {
					t.Fatalf("Parse(%q): Cell(%d, %d) = %c", text, n, m, b.Cell(n, m))
				}
			}
		}
	}
}

// edges gives places along one way: those about every cell's ends, every power of two, both ends of int64, and those that lie in a cell once their upper bits are lost.
func edges(cells int) []int64 {
	var list []int64
	for i := -2; i <= cells+2; i++ {
		list = append(list, int64(i)*side-1, int64(i)*side, int64(i)*side+1, int64(i)*side+half)
	}
	for i := range 63 {
		n := int64(1) << i
		list = append(list, n-1, n, n+1, -n-1, -n, 1-n)
	}
	for i := 20; i < 63; i++ {
		list = append(list, int64(1)<<i+side+half, -(int64(1)<<i)+side+half)
	}
	return append(list, least, least+1, least+side+half, greatest, greatest-1, greatest-side)
}

// P14.1: places inside, on the rim, just outside and at both ends of int64.
func TestPlaces(t *testing.T) {
	for _, text := range boards() {
		b := parsed(t, text)
		p, _ := plainParse(text)
		xs, ys := edges(len(p[0])), edges(len(p))
		step := 1
		if len(p)*len(p[0]) > 1000 {
			step = 7
		}
		for i, x := range xs {
			for j := i % step; j < len(ys); j += step {
				v := at(x, ys[j])
				want := p.at(v)
				if b.At(v) != want || b.Solid(v) != (want == '#') {
					t.Fatalf("Parse(%q): At(%v) = %c, Solid = %v, want %c", text, v, b.At(v), b.Solid(v), want)
				}
			}
		}
	}
}

// P14.2: Parse of Print is the same board, and its Print the same text, with walls alone on the rim.
func TestThereAndBack(t *testing.T) {
	d := dice(2463534242)
	texts := boards()
	for range 200 {
		texts = append(texts, d.text(3+d.below(12), 3+d.below(12), 1+d.below(9)))
	}
	for _, text := range texts {
		p, _ := plainParse(text)
		first := parsed(t, text).Print()
		again := parsed(t, first)
		same(t, first, again, p)
		if got := again.Print(); got != first {
			t.Errorf("Print of Parse(%q) = %q", first, got)
		}
		rim(t, first)
	}
}

func rim(t *testing.T, text string) {
	t.Helper()
	lines := split(text)
	walls := strings.Repeat("#", len(lines[0]))
	if lines[0] != walls || lines[len(lines)-1] != walls {
		t.Errorf("%q: no wall above or below", text)
	}
	for _, line := range lines {
		if line[0] != '#' || line[len(line)-1] != '#' {
			t.Errorf("%q: no wall on the left or the right", text)
		}
	}
}

// P14.2: cells that are written another way are told in one.
func TestPrintHasOneForm(t *testing.T) {
	for text, want := range map[string]string{
		"EEEEE\nA S\u2588.\nSSSSS":                      "#####\n#.S##\n#####\n",
		"SSSS\nS.ES\nSAS \nEEEE":                        "####\n#.E#\n#AS#\n####\n",
		"    \n \u2588S \n    \n":                       "####\n##S#\n####\n",
		"\u2588\u2588\u2588\nASA\n\u2588\u2588\u2588":   "###\n#S#\n###\n",
		".....\n. . .\n.S.E.\n.A \u2588.\n.....\n":      "#####\n#...#\n#S.E#\n#A.##\n#####\n",
		"####\n#  #\n#S\u2588#\n\u2588##\u2588\n":       "####\n#..#\n#S##\n####\n",
		"###\n#S#\n#S#\n#S#\n###":                       "###\n#S#\n#S#\n#S#\n###\n",
		"S S S S\n S S S \nS S S S\n S S S \nS S S S\n": "#######\n#S.S.S#\n#.S.S.#\n#S.S.S#\n#######\n",
	} {
		if got := parsed(t, text).Print(); got != want {
			t.Errorf("Parse(%q).Print() = %q, want %q", text, got, want)
		}
	}
}
