package fix_test

import (
	"math"
	"math/big"
	"strconv"
	"strings"
	"testing"

	"joust/api"
	"joust/fix"
)

// The chapter's table, as it stands there.
const table = "0 1608 3216 4821 6424 8022 9616 11204 12785 14359 15924 17479 19024 20557 22078 23586 25080 26558 28020 29466 30893 32303 33692 35062 36410 37736 39040 40320 41576 42806 44011 45190 46341 47464 48559 49624 50660 51665 52639 53581 54491 55368 56212 57022 57798 58538 59244 59914 60547 61145 61705 62228 62714 63162 63572 63944 64277 64571 64827 65043 65220 65358 65457 65516 65536"

// whole gives the sines of all 256 headings, by the chapter's words.
func whole(t *testing.T) [256]int64 {
	t.Helper()
	words := strings.Fields(table)
	if len(words) != 65 {
		t.Fatalf("the table has %d numbers", len(words))
	}
	var all [256]int64
	for h := range all {
		switch {
		case h <= 64:
			n, err := strconv.ParseInt(words[h], 10, 64)
			if err != nil {
				t.Fatal(err)
			}
			all[h] = n
		case h <= 127:
			all[h] = all[128-h]
		default:
			all[h] = -all[h-128]
		}
	}
	return all
}

// modulo is h's rest in a turn, 0 to 255, reckoned exactly.
func modulo(h int, further int64) int {
	sum := new(big.Int).Add(big.NewInt(int64(h)), big.NewInt(further))
	return int(sum.Mod(sum, big.NewInt(256)).Int64())
}

// headings gives more than a turn on either side of 0, and those about the ends of int and between.
func headings() []int {
	var list []int
	for h := -1100; h <= 1100; h++ {
		list = append(list, h)
	}
	for d := range 600 {
		list = append(list, math.MinInt+d, math.MaxInt-d, 1<<40+d, -1<<40-d)
	}
	for _, n := range scattered(500) {
		list = append(list, int(n))
	}
	return list
}

// P3.6: the chapter's examples.
func TestTurnExamples(t *testing.T) {
	for _, r := range [][2]int{{0, 0}, {64, 65536}, {65, 65516}, {128, 0}, {192, -65536}, {-64, -65536}, {256, 0}, {32, 46341}, {math.MinInt, 0}, {math.MaxInt, -1608}} {
		if n := fix.Sin(r[0]); n != int64(r[1]) {
			t.Errorf("Sin(%d) = %d, want %d", r[0], n, r[1])
		}
	}
	for _, r := range [][2]int{{0, 65536}, {64, 0}, {128, -65536}, {-1, 65516}, {1, 65516}, {math.MinInt, 65536}, {math.MaxInt, 65516}} {
		if n := fix.Cos(r[0]); n != int64(r[1]) {
			t.Errorf("Cos(%d) = %d, want %d", r[0], n, r[1])
		}
	}
}

// P3.6: all headings of a turn, below 0, of 256 and above, at both ends of int.
func TestAllHeadings(t *testing.T) {
	all := whole(t)
	for _, h := range headings() {
		if n, want := fix.Sin(h), all[modulo(h, 0)]; n != want {
			t.Errorf("Sin(%d) = %d, want %d", h, n, want)
		}
		if n, want := fix.Cos(h), all[modulo(h, 64)]; n != want {
			t.Errorf("Cos(%d) = %d, want %d", h, n, want)
		}
	}
}

// P3.6: the table is the sine, rounded to the nearest raw number.
func TestTableIsTheSine(t *testing.T) {
	for h := range 256 {
		angle := float64(h) * math.Pi / 128
		if n, want := fix.Sin(h), int64(math.Round(math.Sin(angle)*65536)); n != want {
			t.Errorf("Sin(%d) = %d, want %d", h, n, want)
		}
		if n, want := fix.Cos(h), int64(math.Round(math.Cos(angle)*65536)); n != want {
			t.Errorf("Cos(%d) = %d, want %d", h, n, want)
		}
	}
}

// P3.10 and P3.9's bounds: what follows from the table (h + 128 and 128 - h wrap round at the ends of int, where a turn goes up evenly).
func TestTurnLaws(t *testing.T) {
	for _, h := range headings() {
		s, c := fix.Sin(h), fix.Cos(h)
		if fix.Sin(h+128) != -s {
			t.Errorf("Sin(%d + 128) is not -Sin", h)
		}
		if fix.Sin(128-h) != s {
			t.Errorf("Sin(128 - %d) is not Sin", h)
		}
		if fix.Cos(-h) != c {
			t.Errorf("Cos(-%d) is not Cos", h)
		}
		if max(s, -s, c, -c) > api.One {
			t.Errorf("of %d: %d and %d are beyond One", h, s, c)
		}
		if off := s*s + c*c - api.One*api.One; max(off, -off) > 1<<17 {
			t.Errorf("of %d: the squares are %d off", h, off)
		}
	}
}
