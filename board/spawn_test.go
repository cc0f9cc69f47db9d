package board_test

import (
	"slices"
	"strings"
	"testing"
	"unsafe"

	"joust/api"
	"joust/board"
)

// P14.1, P14.4: all spawns inside, by lines, in a line from the left; those on the rim are none.
func TestSpawnsInOrder(t *testing.T) {
	for text, want := range map[string][]api.Vec{
		example:                             {at(786432, 786432), at(1835008, 1835008)},
		"SSS\nSSS\nSSS":                     {at(786432, 786432)},
		"SSSSS\nS S S\nSS.SS\nSSSSS":        {at(1310720, 786432), at(786432, 1310720), at(1835008, 1310720)},
		"####\n#.S#\n#S.#\nSSSS\n":          {at(1310720, 786432), at(786432, 1310720)},
		"####\n#..#\n#.S#\n####\n":          {at(1310720, 1310720)},
		"#####\nS##SS\n##S##\nSS##S\nSSSSS": {at(1835008, 786432), at(1310720, 1310720), at(786432, 1835008)},
	} {
		if got := parsed(t, text).Spawns(); !slices.Equal(got, want) {
			t.Errorf("Parse(%q).Spawns() = %v, want %v", text, got, want)
		}
	}
	all := parsed(t, strings.Repeat(strings.Repeat("S", 64)+"\n", 64)).Spawns()
	if len(all) != 62*62 || all[0] != at(786432, 786432) || all[61] != at(62*side+half, 786432) || all[62] != at(786432, 1310720) || all[62*62-1] != at(62*side+half, 62*side+half) {
		t.Errorf("%d spawns of a board of spawns", len(all))
	}
}

// P14.4: each spawn is in a cell 'S', in its middle, where the cell's own box is open; there is one at least.
func TestSpawnsAreOpen(t *testing.T) {
	d := dice(77)
	for _, text := range boards() {
		b := parsed(t, text)
		list := b.Spawns()
		if len(list) == 0 {
			t.Errorf("Parse(%q): no spawn", text)
		}
		for _, v := range list {
			if b.At(v) != 'S' || b.Cell(int(v.X/side), int(v.Y/side)) != 'S' || v.X%side != half || v.Y%side != half || b.Solid(v) {
				t.Fatalf("Parse(%q): a spawn at %v", text, v)
			}
			for _, n := range []int64{least, -half, -1, 0, 1, 2, 98304, half - 1, half, 1 + int64(d.below(half))} {
				if b.Blocked(v, n) {
					t.Fatalf("Parse(%q): Blocked(%v, %d) of a spawn", text, v, n)
				}
			}
		}
	}
	b := parsed(t, "#####\n##S##\n#####")
	if v := b.Spawns()[0]; b.Blocked(v, half) || !b.Blocked(v, half+1) {
		t.Error("a spawn between walls")
	}
}

// P14.5: two lists share nothing, their spare room neither.
func TestSpawnsShareNothing(t *testing.T) {
	for _, text := range boards() {
		b := parsed(t, text)
		want := slices.Clone(b.Spawns())
		one, other := b.Spawns(), b.Spawns()
		for i := range one[:cap(one)] {
			one[:cap(one)][i] = at(-1, -1)
		}
		_ = append(one, at(-2, -2))
		if !slices.Equal(other, want) || !slices.Equal(b.Spawns(), want) || b.Print() != parsed(t, text).Print() {
			t.Fatalf("Parse(%q): a list of Spawns that is written into changes another one, or the board", text)
		}
		if unsafe.SliceData(one) == unsafe.SliceData(other) {
			t.Fatalf("Parse(%q): two lists of Spawns lie in one place", text)
		}
	}
}

// share tells whether two texts have bytes in common.
func share(a, b string) bool {
	if a == "" || b == "" {
		return false
	}
	firstA, firstB := uintptr(unsafe.Pointer(unsafe.StringData(a))), uintptr(unsafe.Pointer(unsafe.StringData(b)))
	return firstA < firstB+uintptr(len(b)) && firstB < firstA+uintptr(len(a))
}

// P14.5, R11: the text is not kept, and each Print is a text of its own.
func TestTextsShareNothing(t *testing.T) {
	text := []byte(example)
	b := parsed(t, unsafe.String(&text[0], len(text)))
	for i := range text {
		text[i] = 'x'
	}
	if b.Print() != example || b.Cell(1, 1) != 'S' || len(b.Spawns()) != 2 {
		t.Errorf("the board has become %q", b.Print())
	}
	given := strings.Clone(example)
	c := parsed(t, given)
	one, other := c.Print(), c.Print()
	if share(one, other) || share(one, given) {
		t.Error("Print shares memory")
	}
}

// R13: a board never changes, whatever is asked, and whatever other boards there are.
func TestBoardsStay(t *testing.T) {
	texts := boards()
	var list []*board.Board
	for _, text := range texts {
		list = append(list, parsed(t, text))
		refused(t, text+"x", api.ErrBoard)
	}
	d := dice(5)
	for range 20000 {
		b := list[d.below(len(list))]
		v := at(int64(d.below(8*side)), int64(d.below(8*side)))
		b.Blocked(v, d.sized())
		b.Solid(v)
		b.Cell(d.below(9), d.below(9))
		b.Spawns()
	}
	for i, text := range texts {
		p, _ := plainParse(text)
		same(t, text, list[i], p)
		if list[i].Print() != parsed(t, text).Print() {
			t.Errorf("Parse(%q) is another board the second time", text)
		}
	}
}
