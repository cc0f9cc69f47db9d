package board_test

import (
	"slices"
	"strings"
	"testing"
	"unicode/utf8"

	"joust/api"
	"joust/board"
)

// P14.1: the chapter's examples of boards, and some beside them.
func TestParseExamples(t *testing.T) {
	for _, text := range []string{"###\n#S#\n###", "###\n#S#\n###\n", "SSS\nSSS\nSSS", "\u2588##\n#S \n###", "...\nESA\n   \n", "\u2588\u2588\u2588\n\u2588S\u2588\n\u2588\u2588\u2588\n"} {
		b := parsed(t, text)
		if w, h := b.Size(); w != 3 || h != 3 || b.Print() != "###\n#S#\n###\n" {
			t.Errorf("Parse(%q): %d, %d, %q", text, w, h, b.Print())
		}
		if got := b.Spawns(); !slices.Equal(got, []api.Vec{at(786432, 786432)}) {
			t.Errorf("Parse(%q).Spawns() = %v", text, got)
		}
	}
}

// P14.1: what is no board, and what has no spawn.
func TestParseRefuses(t *testing.T) {
	for _, text := range []string{"###\n#.#\n###", "SSS\nS S\nSSS", "SSS\nS#S\nSSS\n", "###\nSES\n###", "###\nSAS\n###", "S  S\n    \n    \nS  S", "#S##\n####\n####\n##S#", "\u2588\u2588\u2588\n\u2588\u2588\u2588\n\u2588\u2588\u2588"} {
		refused(t, text, api.ErrPlace)
	}
	for _, text := range []string{
		"", "\n", "\n\n", "\n\n\n", "\n\n\n\n", "S", "SSS", "SSS\n", "SSS\nSSS", "SSS\nSSS\n",
		"###\n#S#\n###\n\n", "\n###\n#S#\n###\n", "###\n\n#S#\n###\n", "###\n#S#\n\n###\n", "###\n#S#\n###\n\n\n",
		"###\n#Sx\n###", "###\n#sS#\n###", "####\n#S#\n###", "###\n#S##\n###", "###\n#S#\n####", "##\n#S#\n###", "###\n#S\n###", "###\n#S#\n##", "###\n#S#\n##\n",
		"##\n#S\n##", "##\nSS\nSS\n##\n", "#\nS\n#", "###\r\n#S#\r\n###\r\n", "###\n#S#\n###\r", "###\n#S#\n###\r\n", "\r\n###\n#S#\n###", "####\n#S\t#\n####", "\t###\n#S#\n###", "####\n#S\ufffd#\n####", "####\n#S\xff#\n####", "####\n#S\x00#\n####",
		"\ufeff###\n#S#\n###", "###\n#S#\n###\x00", "###\u0085#S#\u0085###", "###\u2028#S#\u2028###", "###\v#S#\v###", "###\f#S#\f###", "####\n#S\u00a0#\n####",
		"####\n#S\xe2\x96#\n####", "####\n#S\xe2#\n####", "####\n#S\x96\x88#\n####", "####\n#S\u2587#\n####", "####\n#S\u2589#\n####", "####\n#S\xf0\x82\x96\x88#\n####", "###\n#S#\n##\xe2\x96",
	} {
		refused(t, text, api.ErrBoard)
	}
}

// P14.1: ErrBoard is ahead of ErrPlace, wherever the fault stands.
func TestBoardAheadOfPlace(t *testing.T) {
	for _, text := range []string{"", "###\n###", "###\n#.x\n###", "x##\n#.#\n###", "###\n#.#\n##x", "####\n#.#\n###", "###\n#.#\n###\n\n", "SSS\nS S\nSSSS", "SSS\nS S\nSS\xff", "##\n##\n##", strings.Repeat("#", 65) + "\n###\n###", strings.Repeat("###\n", 65), "###\n#.#\n###\r\n"} {
		refused(t, text, api.ErrBoard)
	}
}

// P14.1: every rune, inside and on the rim.
func TestEveryRune(t *testing.T) {
	cells := map[rune]rune{'#': '#', 0x2588: '#', '.': '.', ' ': '.', 'S': 'S', 'E': 'E', 'A': 'A'}
	last := rune(utf8.MaxRune)
	if testing.Short() {
		last = 0x3000
	}
	for r := rune(0); r <= last; r++ {
		inside, rim := "####\n#S"+string(r)+"#\n####", "####\n#S.#\n###"+string(r)
		want, known := cells[r]
		if !known {
			refused(t, inside, api.ErrBoard)
			if r != '\n' {
				refused(t, rim, api.ErrBoard)
			}
			continue
		}
		if got := parsed(t, inside).Cell(2, 1); got != want {
			t.Errorf("the cell of %q is %c, want %c", r, got, want)
		}
		if got := parsed(t, rim).Print(); got != "####\n#S.#\n####\n" {
			t.Errorf("%q on the rim: %q", r, got)
		}
	}
	refused(t, "####\n#S.#\n###\n", api.ErrBoard)
}

// P14.1: every byte, every two bytes, and those about the three of U+2588, as they stand: one that is no UTF-8 is no cell.
func TestEveryByte(t *testing.T) {
	for a := range 256 {
		one := string([]byte{byte(a)})
		compare(t, "####\n#S"+one+"#\n####")
		compare(t, one+"###\n#S.#\n####")
		compare(t, "####\n#S.#\n####"+one)
		for b := range 256 {
			two := string([]byte{byte(a), byte(b)})
			compare(t, "####\n#S"+two+"\n####")
		}
	}
	for a := 0xe0; a <= 0xe4; a++ {
		for b := 0x7e; b <= 0xc1; b++ {
			for c := 0x7e; c <= 0xc1; c++ {
				compare(t, "###\n#S"+string([]byte{byte(a), byte(b), byte(c)})+"\n###")
			}
		}
	}
}

// P14.1: every number of lines and of runes up to 67, with the last byte 10 and without it.
func TestEverySize(t *testing.T) {
	for high := range 68 {
		for wide := range 68 {
			line := strings.Repeat("S", wide)
			if wide == 7 {
				line = strings.Repeat("\u2588S", 3) + "\u2588" // more bytes than runes
			}
			text := strings.Repeat(line+"\n", high)
			bare := strings.TrimSuffix(text, "\n")
			if wide < 3 || wide > 64 || high < 3 || high > 64 {
				refused(t, text, api.ErrBoard)
				refused(t, bare, api.ErrBoard)
				continue
			}
			for _, s := range []string{text, bare} {
				if w, h := parsed(t, s).Size(); w != wide || h != high {
					t.Errorf("%d lines of %d runes: Size() = %d, %d", high, wide, w, h)
				}
			}
			refused(t, text+"\n", api.ErrBoard)
		}
	}
}

// P14.1: 64 runes of three bytes are a line, 65 are none, and 64 lines of them are a board.
func TestLinesAreCountedInRunes(t *testing.T) {
	full := strings.Repeat("\u2588", 64)
	with := "\u2588S" + strings.Repeat("\u2588", 62)
	b := parsed(t, full+"\n"+with+"\n"+strings.Repeat(full+"\n", 62))
	if w, h := b.Size(); w != 64 || h != 64 || len(b.Spawns()) != 1 {
		t.Errorf("Size() = %d, %d, %d spawns", w, h, len(b.Spawns()))
	}
	refused(t, full+"\u2588\n"+with+"\u2588\n"+full+"\u2588\n", api.ErrBoard)
	refused(t, strings.Repeat("\u2588", 65)+"\n"+with+"\n"+full, api.ErrBoard)
	if w, _ := parsed(t, "###\n#S#\n\u2588\u2588\u2588").Size(); w != 3 {
		t.Errorf("width %d, want 3", w)
	}
	refused(t, "###\n#S#\n\u2588", api.ErrBoard)    // as many bytes, fewer runes
	refused(t, "\u2588\n\u2588\nSSS", api.ErrBoard) // one rune of three bytes
	refused(t, "\u2588\u2588\n\u2588S\n\u2588\u2588", api.ErrBoard)
}

// P14.1: one line is longer or shorter by some runes than the others.
func TestUnevenLines(t *testing.T) {
	for _, high := range []int{3, 4, 5, 9, 64} {
		for odd := range high {
			for _, more := range []int{-4, -3, -2, -1, 1, 2, 3, 60} {
				lines := slices.Repeat([]string{"#S.#"}, high)
				lines[odd] = strings.Repeat("#", 4+more)
				refused(t, strings.Join(lines, "\n")+"\n", api.ErrBoard)
				compare(t, strings.Join(lines, "\n")) // whose last line is none, if it is empty
			}
			lines := slices.Repeat([]string{"#S.#"}, high)
			lines[odd] = "#S\u2588#"
			compare(t, strings.Join(lines, "\n"))
		}
	}
}

// P14.1: texts that are far too long are refused, whatever they are made of.
func TestLongTexts(t *testing.T) {
	for _, s := range []string{"#", "S", "\n", "S\n", "SSS\n", "\u2588", "SSSS\n\u2588 \u2588A\n", "\xff", "SSS\nSSS\nSSS\n\n"} {
		refused(t, strings.Repeat(s, 1<<18), api.ErrBoard)
	}
}

// P14.1: texts of any runes, nearly boards.
func TestAnyTexts(t *testing.T) {
	pieces := []string{"#", "\u2588", ".", " ", "S", "E", "A", "\n", "\n", "\r", "\t", "\ufffd", "\xff", "\xe2", "x", "s", "", "\n\n", "SS", "\u2588\u2588"}
	d := dice(362436069)
	var good, bad, bare int
	for range 30000 {
		text := d.text(3+d.below(4), 3+d.below(4), 1+d.below(5))
		if d.below(3) == 0 {
			text = strings.ReplaceAll(text, "S", ".")
		}
		for range d.below(3) {
			i := d.below(len(text) + 1)
			j := min(len(text), i+d.below(2))
			text = text[:i] + pieces[d.below(len(pieces))] + text[j:]
		}
		if d.below(2) == 0 {
			text = strings.TrimSuffix(text, "\n")
		}
		compare(t, text)
		switch _, e := board.Parse(text); e {
		case api.OK:
			good++
		case api.ErrBoard:
			bad++
		case api.ErrPlace:
			bare++
		}
	}
	if good < 1000 || bad < 1000 || bare < 1000 {
		t.Errorf("the texts are too much alike: %d boards, %d faults, %d without spawns", good, bad, bare)
	}
}
