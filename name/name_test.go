package name_test

import (
	"math"
	"strings"
	"testing"

	"joust/api"
	"joust/name"
)

// piece is one rune of a text, with its bytes.
type piece struct {
	r     rune
	bytes string
}

// begun gives the rune that a text begins with, reckoned by the form of UTF-8 alone; the range of the language is not asked.
func begun(s string) piece {
	for _, form := range []struct {
		bytes             int
		mask, lead        byte
		least, beyondLast rune
	}{{1, 0x80, 0x00, 0, 0x80}, {2, 0xe0, 0xc0, 0x80, 0x800}, {3, 0xf0, 0xe0, 0x800, 0x10000}, {4, 0xf8, 0xf0, 0x10000, 0x110000}} {
		if s[0]&form.mask != form.lead || len(s) < form.bytes {
			continue
		}
		r, whole := rune(s[0]&^form.mask), true
		for _, b := range []byte(s[1:form.bytes]) {
			r, whole = r<<6|rune(b&0x3f), whole && b&0xc0 == 0x80
		}
		surrogate := r >= 0xd800 && r <= 0xdfff
		if whole && !surrogate && r >= form.least && r < form.beyondLast {
			return piece{r, s[:form.bytes]}
		}
	}
	return piece{0xfffd, s[:1]}
}

// pieces are the runes of a text.
func pieces(s string) []piece {
	var list []piece
	for s != "" {
		p := begun(s)
		list = append(list, p)
		s = s[len(p.bytes):]
	}
	return list
}

// isNames tells whether a rune is a name's, in the words of the chapter.
func isNames(r rune) bool {
	return r >= 'a' && r <= 'z' || r >= 'A' && r <= 'Z' || r >= '0' && r <= '9' || r == '_' || r == '-' ||
		r >= 0xc0 && r <= 0xff && r != 0xd7 && r != 0xf7 || r >= 0x3b1 && r <= 0x3c9
}

// isLarge tells whether a rune is one that Fold changes.
func isLarge(r rune) bool {
	return r >= 'A' && r <= 'Z' || r >= 0xc0 && r <= 0xde && r != 0xd7
}

func plainCheck(s string) api.Errno {
	list := pieces(s)
	if len(list) < 1 || len(list) > 12 || len(s) > 24 {
		return api.ErrName
	}
	for _, p := range list {
		if !isNames(p.r) {
			return api.ErrName
		}
	}
	return api.OK
}

func plainFold(s string) string {
	var b strings.Builder
	for _, p := range pieces(s) {
		if isLarge(p.r) {
			b.WriteString(string(p.r + 32))
		} else {
			b.WriteString(p.bytes)
		}
	}
	return b.String()
}

func plainCut(s string, n int) string {
	var b strings.Builder
	for i, p := range pieces(s) {
		if i < n {
			b.WriteString(p.bytes)
		}
	}
	return b.String()
}

func plainPad(s string, n int) string {
	n = min(n, 4096)
	cut := plainCut(s, n)
	return cut + strings.Repeat(" ", max(0, n-len(pieces(cut))))
}

// edges are bytes at which the forms of UTF-8 begin and end.
const edges = "A~\x80\x8f\x90\x9f\xa0\xbf\xc0\xc1\xc2\xc3\xdf\xe0\xe2\xed\xef\xf0\xf4\xf5\xff"

// edgeTexts are all texts of up to n bytes of edges.
func edgeTexts(n int) []string {
	list := []string{""}
	for from := 0; n > 0; n-- {
		to := len(list)
		for _, s := range list[from:to] {
			for i := range len(edges) {
				list = append(list, s+edges[i:i+1])
			}
		}
		from = to
	}
	return list
}

// alone are all runes, each as a text, and all bytes, each as a text.
func alone() []string {
	var list []string
	for r := range rune(0x110000) {
		list = append(list, string(r))
	}
	for b := range 256 {
		list = append(list, string([]byte{byte(b)}))
	}
	return list
}

// odd are texts that the chapter names, or that are broken in one of the ways it names.
var odd = []string{
	"", " ", "a\x00b", "a\xe2\x82b", "\xe2\x82", "\xe2\x82\xac", "\xef\xbf\xbd", "a\xef\xbf\xbdb", "e\u0301", "\u03a3\u03c3", "\u00df\u00ff\u00d7\u00f7",
	"\xc0\x80", "\xc1\xbf", "\xe0\x80\x80", "\xe0\x9f\xbf", "\xf0\x80\x80\x80", "\xf0\x8f\xbf\xbf",
	"\xed\xa0\x80", "\xed\xbf\xbf", "\xed\xa0\xbd\xed\xb8\x80", "\xf4\x90\x80\x80", "\xf5\x80\x80\x80", "\xf8\x88\x80\x80\x80", "\xff\xfe",
	"\xf0\x9f\x98\x80", "\xf0\x9f\x98", "\xf0\x9f", "\xf0", "\xf0\x9f\x98A", "\xc3\xc3\x84", "\xc3A\xc3\x84\xc3", "\x84\xc3\x84",
	"Ann", "\u00d6tzi_9", "\u00c4BC\u00d7\xff", "thirteenchars", strings.Repeat("\u00c4", 12), strings.Repeat("\xff", 30), strings.Repeat("\u20acx\xe2\x82", 900), strings.Repeat("ab", 2100),
}

// 6.1: the chapter's examples and hard places.
func TestCheckExamples(t *testing.T) {
	for _, x := range []struct {
		s string
		e api.Errno
	}{
		{"Ann", api.OK}, {"", api.ErrName}, {"a b", api.ErrName}, {"thirteenchars", api.ErrName}, {"a\xc3", api.ErrName},
		{"\u00d6tzi_9", api.OK}, {"\u00d7", api.ErrName}, {"\u00f7", api.ErrName},
		{strings.Repeat("\u00e4", 12), api.OK}, {"\xef\xbf\xbd", api.ErrName}, {"\xe2\x82", api.ErrName}, {"\xe2\x82\xac", api.ErrName},
		{"e\u0301", api.ErrName}, {"\u00e9", api.OK}, {"\u03a3", api.ErrName}, {"\u03c3", api.OK},
		{"a-b_C", api.OK}, {"-", api.OK}, {"_", api.OK}, {"0", api.OK}, {"a\n", api.ErrName}, {"a\x00", api.ErrName}, {"\x00", api.ErrName},
	} {
		if e := name.Check(x.s); e != x.e {
			t.Errorf("Check(%q) = %v, want %v", x.s, e, x.e)
		}
	}
}

// 6.1: every rune alone, and every byte.
func TestCheckOfEachRune(t *testing.T) {
	names := 0
	for _, s := range alone() {
		e := name.Check(s)
		if want := plainCheck(s); e != want {
			t.Errorf("Check(%q) = %v, want %v", s, e, want)
		}
		if e == api.OK && len(s) > 1 {
			names++
		}
	}
	if names != 62+25 {
		t.Errorf("%d names of one rune have two bytes", names)
	}
}

// 6.1: names of 0 to 30 runes, of one byte each, of two, and mixed; of 24 bytes, and more.
func TestCheckOfEachLength(t *testing.T) {
	for n := range 31 {
		want := api.ErrName
		if n >= 1 && n <= 12 {
			want = api.OK
		}
		for _, r := range []string{"a", "Z", "0", "_", "-", "\u00c0", "\u00ff", "\u03b1", "\u03c9"} {
			for k := range n + 1 {
				s := strings.Repeat(r, k) + strings.Repeat("x", n-k)
				if e := name.Check(s); e != want {
					t.Errorf("Check(%q), %d runes, %d bytes: %v", s, n, len(s), e)
				}
			}
		}
		for _, r := range []string{"\u20ac", "\U0001f600", "\xff"} {
			if e := name.Check(strings.Repeat(r, n)); e != api.ErrName {
				t.Errorf("Check of %q %d times: %v", r, n, e)
			}
		}
	}
}

// 6.1: one thing that is no name's, at each place of a name.
func TestCheckOfOneWrongRune(t *testing.T) {
	for n := 1; n <= 12; n++ {
		for at := range n {
			for _, wrong := range []string{" ", "\x00", "/", ":", "@", "[", "`", "{", "\x7f", "\x80", "\xc3", "\xff", "\u00bf", "\u00d7", "\u00f7", "\u0100", "\u0301", "\u03b0", "\u03ca", "\u03a3", "\ufffd", "\u20ac", "\U0001f600"} {
				s := strings.Repeat("e", at) + wrong + strings.Repeat("e", n-at-1)
				if e := name.Check(s); e != api.ErrName {
					t.Errorf("Check(%q) = %v", s, e)
				}
			}
		}
	}
}

// 6.1, 6.2, 6.4: texts of any bytes against plain reckonings of the same.
func TestAnyBytes(t *testing.T) {
	texts := append(edgeTexts(4), odd...)
	d := dice(6)
	for n := range 3000 {
		texts = append(texts, d.bytes(n%40), d.text(n%20))
	}
	for _, s := range texts {
		if e, want := name.Check(s), plainCheck(s); e != want {
			t.Fatalf("Check(%q) = %v, want %v", s, e, want)
		}
		if f, want := name.Fold(s), plainFold(s); f != want {
			t.Fatalf("Fold(%q) = %q, want %q", s, f, want)
		}
		if n, want := name.Runes(s), len(pieces(s)); n != want {
			t.Fatalf("Runes(%q) = %d, want %d", s, n, want)
		}
	}
}

// 6.2: the chapter's example and hard places, and what stands beside the letters that fold.
func TestFoldExamples(t *testing.T) {
	for s, want := range map[string]string{
		"": "", "\u00c4BC\u00d7\xff": "\u00e4bc\u00d7\xff", "\u00df": "\u00df", "\u00ff": "\u00ff", "\u03a3": "\u03a3", "\u0391": "\u0391", "\u0100": "\u0100", "\u0178": "\u0178",
		"@AZ[`az{": "@az[`az{", "\u00bf\u00c0\u00d6\u00d7\u00d8\u00de\u00df": "\u00bf\u00e0\u00f6\u00d7\u00f8\u00fe\u00df",
		"\xc3A\xc3\x84\xc3": "\xc3a\xc3\xa4\xc3", "\xe2\x82Z": "\xe2\x82z", "\xef\xbf\xbdQ": "\xef\xbf\xbdq", "A\u0301": "a\u0301",
	} {
		if f := name.Fold(s); f != want {
			t.Errorf("Fold(%q) = %q, want %q", s, f, want)
		}
	}
}

// 6.2: every rune alone, and between others.
func TestFoldOfEachRune(t *testing.T) {
	for _, s := range alone() {
		want := plainFold(s)
		if f := name.Fold(s); f != want {
			t.Errorf("Fold(%q) = %q, want %q", s, f, want)
		}
		if f := name.Fold("A" + s + "Z"); f != "a"+want+"z" {
			t.Errorf("Fold(%q) = %q, want %q", "A"+s+"Z", f, "a"+want+"z")
		}
	}
}

// 6.3: texts in small and large letters, and those that differ in more.
func TestSame(t *testing.T) {
	for _, x := range []struct {
		a, b string
		same bool
	}{
		{"\u00c9VE", "\u00e9ve", true}, {"", "", true}, {"", "a", false}, {"a", "A", true}, {"Ann", "aNN", true}, {"Ann", "Anne", false},
		{"eve", "\u00e9ve", false}, {"\xff", "\xff", true}, {"\xff", "\xfe", false}, {"\xff", "\ufffd", false}, {"A\xff", "a\xff", true},
		{"\u00d7", "\u00f7", false}, {"\u00df", "\u00ff", false}, {"\u00de", "\u00fe", true}, {"\u03a3", "\u03c3", false}, {"\u0178", "\u00ff", false},
		{"K", "\u212a", false}, {"@", "`", false}, {"[", "{", false}, {"a ", "a", false}, {"\xc3A", "\xc3a", true}, {"_", "-", false},
	} {
		if name.Same(x.a, x.b) != x.same || name.Same(x.b, x.a) != x.same {
			t.Errorf("Same(%q, %q) is not %v", x.a, x.b, x.same)
		}
	}
	texts := edgeTexts(2)
	for _, a := range texts {
		for _, b := range texts {
			if got, want := name.Same(a, b), plainFold(a) == plainFold(b); got != want {
				t.Fatalf("Same(%q, %q) = %v", a, b, got)
			}
		}
	}
}

// 6.3: one million letters, large and small, and with another one at the end.
func TestSameOfLongTexts(t *testing.T) {
	large, small := strings.Repeat("\u00c4B", 333333), strings.Repeat("\u00e4b", 333333)
	if !name.Same(large, small) || name.Same(large+"a", small+"b") || name.Same(large, small+"b") {
		t.Error("Same of long texts")
	}
}

// 6.4: the chapter's examples, and sequences of each kind that are none.
func TestRunesExamples(t *testing.T) {
	for s, want := range map[string]int{
		"": 0, "a\xe2\x82b": 4, "\xe2\x82": 2, "\xe2\x82\xac": 1, "\xef\xbf\xbd": 1, "e\u0301": 2, "\x00": 1,
		"\xc0\x80": 2, "\xe0\x80\x80": 3, "\xf0\x80\x80\x80": 4, "\xed\xa0\x80": 3, "\xf4\x90\x80\x80": 4, "\xf4\x8f\xbf\xbf": 1, "\xf0\x9f\x98": 3, "\xf8\x88\x80\x80\x80": 5,
	} {
		if n := name.Runes(s); n != want {
			t.Errorf("Runes(%q) = %d, want %d", s, n, want)
		}
	}
}

// counts are numbers of runes to cut and pad to, the edges of an int among them.
var counts = []int{0, 1, 2, 3, 4, 5, 11, 12, 13, 4094, 4095, 4096, 4097, 10000, -1, -2, -4096, 1 << 32, -1 << 32, math.MaxInt, math.MaxInt - 1, math.MinInt, math.MinInt + 1}

// 6.5, 6.6: the chapter's examples.
func TestCutAndPadExamples(t *testing.T) {
	for _, x := range []struct {
		s        string
		n        int
		cut, pad string
	}{
		{"\u00d6tzi", 2, "\u00d6t", "\u00d6t"}, {"x", 9, "x", "x        "}, {"x", -1, "", ""}, {"\u00d6t", 4, "\u00d6t", "\u00d6t  "}, {"abc", 2, "ab", "ab"}, {"a", -5, "", ""},
		{"", 0, "", ""}, {"", 2, "", "  "}, {"abc", 3, "abc", "abc"}, {"abc", 0, "", ""}, {"\xe2\x82b", 1, "\xe2", "\xe2"}, {"\xe2\x82", 3, "\xe2\x82", "\xe2\x82 "}, {"e\u0301x", 1, "e", "e"}, {"a ", 3, "a ", "a  "},
	} {
		if s := name.Cut(x.s, x.n); s != x.cut {
			t.Errorf("Cut(%q, %d) = %q, want %q", x.s, x.n, s, x.cut)
		}
		if s := name.Pad(x.s, x.n); s != x.pad {
			t.Errorf("Pad(%q, %d) = %q, want %q", x.s, x.n, s, x.pad)
		}
	}
}

// 6.5, 6.6: odd texts at each count.
func TestCutAndPadAtEachCount(t *testing.T) {
	for _, s := range append(edgeTexts(2), odd...) {
		for _, n := range counts {
			if got, want := name.Cut(s, n), plainCut(s, n); got != want {
				t.Fatalf("Cut of %.40q at %d has %d bytes, want %d", s, n, len(got), len(want))
			}
			if got, want := name.Pad(s, n), plainPad(s, n); got != want {
				t.Fatalf("Pad of %.40q to %d has %d bytes, want %d", s, n, len(got), len(want))
			}
		}
	}
}

// 6.5, 6.6: texts of any bytes, at each count up to one more than they have.
func TestCutAndPadOfAnyBytes(t *testing.T) {
	texts := edgeTexts(4)
	d := dice(66)
	for n := range 1000 {
		texts = append(texts, d.bytes(n%30), d.text(n%20))
	}
	for _, s := range texts {
		for n := range len(s) + 2 {
			if got, want := name.Cut(s, n), plainCut(s, n); got != want {
				t.Fatalf("Cut(%q, %d) = %q, want %q", s, n, got, want)
			}
			if got, want := name.Pad(s, n), plainPad(s, n); got != want {
				t.Fatalf("Pad(%q, %d) = %q, want %q", s, n, got, want)
			}
		}
	}
}

// 6.5, 6.6: Cut of more than 4096 runes has no bound, Pad has.
func TestPadHasABound(t *testing.T) {
	s := strings.Repeat("\u00e4", 5000)
	for _, n := range []int{4095, 4096, 4097, 4999, 5000, 5001, math.MaxInt} {
		if got := name.Cut(s, n); got != s[:2*min(n, 5000)] {
			t.Errorf("Cut at %d has %d bytes", n, len(got))
		}
		if got := name.Pad(s, n); got != s[:2*min(n, 4096)] {
			t.Errorf("Pad to %d has %d bytes", n, len(got))
		}
		if got := name.Pad("", n); got != strings.Repeat(" ", min(n, 4096)) {
			t.Errorf("Pad of nothing to %d has %d bytes", n, len(got))
		}
	}
}
