package name_test

import (
	"strings"
	"testing"

	"joust/name"
)

// dice is a row of numbers that look like chance and are the same in each run.
type dice uint64

func (d *dice) word() uint64 {
	*d ^= *d << 13
	*d ^= *d >> 7
	*d ^= *d << 17
	return uint64(*d) * 0x2545f4914f6cdd1d
}

func (d *dice) below(n int) int { return int(d.word() >> 20 % uint64(n)) }

func (d *dice) bytes(n int) string {
	s := make([]byte, n)
	for i := range s {
		s[i] = byte(d.word() >> 40)
	}
	return string(s)
}

// shards are runes, and pieces of runes, that texts are made of.
var shards = []string{"a", "b", "A", "Z", "0", "_", " ", "\u00c4", "\u00e4", "\u00d7", "\u00df", "\u03a3", "\u03c3", "\u20ac", "\ufffd", "\U0001f600", "\u0301", "\xc3", "\x84", "\xe2\x82", "\xff", "\xed\xa0\x80"}

// text is one of n shards.
func (d *dice) text(n int) string {
	var b strings.Builder
	for range n {
		b.WriteString(shards[d.below(len(shards))])
	}
	return b.String()
}

// plainNear is the number by the whole square of all beginnings.
func plainNear(a, b string) int {
	from, to := pieces(a), pieces(b)
	last := make([]int, len(to)+1)
	for j := range last {
		last[j] = j
	}
	for i, x := range from {
		row := []int{i + 1}
		for j, y := range to {
			exchanged := last[j]
			if x.r != y.r {
				exchanged++
			}
			row = append(row, min(exchanged, last[j+1]+1, row[j]+1))
		}
		last = row
	}
	return min(8, last[len(to)])
}

func wantNear(t *testing.T, a, b string, want int) {
	t.Helper()
	if n := name.Near(a, b); n != want {
		t.Fatalf("Near(%.60q, %.60q) = %d, want %d", a, b, n, want)
	}
	if n := name.Near(b, a); n != want {
		t.Fatalf("Near(%.60q, %.60q) = %d, want %d", b, a, n, want)
	}
}

// 6.7: the chapter's examples and hard places.
func TestNearExamples(t *testing.T) {
	for _, x := range []struct {
		a, b string
		want int
	}{
		{"kitten", "sitting", 3}, {"", "abc", 3}, {"", "123456789", 8}, {"\xff", "\xfe", 0}, {"A", "a", 1},
		{"", "", 0}, {"a", "", 1}, {"\xff", "\ufffd", 0}, {"\xe2\x82", "\ufffd\ufffd", 0}, {"\xe2\x82", "\xe2\x82\xac", 2}, {"\u00e9", "e\u0301", 2}, {"\u00c4", "\u00e4", 1},
		{"1234567", "", 7}, {"12345678", "", 8}, {"1234567", "abcdefg", 7}, {"12345678", "abcdefgh", 8}, {"ab", "ba", 2}, {"abcdef", "bcdefa", 2}, {"a\x00", "a", 1},
	} {
		wantNear(t, x.a, x.b, x.want)
	}
}

// 6.7: all texts of up to five of three letters, against the plain reckoning.
func TestNearOfAllSmallTexts(t *testing.T) {
	texts := []string{""}
	for from, n := 0, 0; n < 5; n++ {
		to := len(texts)
		for _, s := range texts[from:to] {
			texts = append(texts, s+"a", s+"b", s+"\u20ac")
		}
		from = to
	}
	for _, a := range texts {
		for _, b := range texts {
			wantNear(t, a, b, plainNear(a, b))
		}
	}
}

// 6.7: texts of any bytes, and of edges.
func TestNearOfAnyBytes(t *testing.T) {
	d := dice(67)
	for n := range 20000 {
		a, b := d.text(d.below(14)), d.text(d.below(14))
		if n%2 == 0 {
			a, b = d.bytes(d.below(10)), d.bytes(d.below(10))
		}
		wantNear(t, a, b, plainNear(a, b))
	}
	texts := edgeTexts(2)
	for _, a := range texts {
		for _, b := range texts {
			wantNear(t, a, b, plainNear(a, b))
		}
	}
}

// changed puts in, takes out or exchanges one rune, so many times.
func (d *dice) changed(s string, times int) string {
	runes := []rune(s)
	for range times {
		at, r := d.below(len(runes)+1), rune('a'+d.below(3))
		switch c := d.below(3); {
		case c == 0 || at == len(runes):
			runes = append(runes[:at:at], append([]rune{r}, runes[at:]...)...)
		case c == 1:
			runes = append(runes[:at:at], runes[at+1:]...)
		default:
			runes = append(runes[:at:at], append([]rune{r}, runes[at+1:]...)...)
		}
	}
	return string(runes)
}

// 6.7: texts made of one another by up to twelve changes, so that all answers come.
func TestNearOfChangedTexts(t *testing.T) {
	d := dice(677)
	var seen [9]int
	for n := range 20000 {
		var b strings.Builder
		for range d.below(60) {
			b.WriteRune(rune('a' + d.below(2+n%25)))
		}
		a := b.String()
		c := d.changed(a, d.below(13))
		want := plainNear(a, c)
		wantNear(t, a, c, want)
		seen[want]++
	}
	for want, times := range seen {
		if times < 100 {
			t.Errorf("the answer %d came %d times", want, times)
		}
	}
}

// 6.7: a stretch is moved by k runes, put in at the beginning and taken out at the end, or the other way round: a way that leaves the middle by all that is possible.
func TestNearOfMovedTexts(t *testing.T) {
	var b strings.Builder
	for r := range rune(300) {
		b.WriteRune(0x400 + r)
	}
	middle := b.String()
	for k := range 12 {
		ahead, behind := strings.Repeat("<", k), strings.Repeat(">", k)
		wantNear(t, ahead+middle, middle, min(8, k))
		wantNear(t, middle+behind, middle, min(8, k))
		wantNear(t, ahead+middle, middle+behind, min(8, 2*k))
		for up := range k + 1 {
			wantNear(t, ahead[:up]+middle, middle+behind[up:], min(8, k))
			wantNear(t, "x"+ahead[:up]+middle, "y"+middle+behind[up:], min(8, k+1))
		}
	}
}

// 6.7: lengths that differ by 0 to 20, of texts with nothing in common and of texts that are one's beginning or end.
func TestNearOfLengths(t *testing.T) {
	for short := range 12 {
		for more := range 21 {
			a, b := strings.Repeat("a", short), strings.Repeat("b", short+more)
			wantNear(t, a, b, min(8, short+more))
			long := strings.Repeat("a", short+more)
			wantNear(t, a, long, min(8, more))
		}
	}
	long := strings.Repeat("a", 5000)
	for more := range 21 {
		wantNear(t, long, long+strings.Repeat("b", more), min(8, more))
		wantNear(t, long, strings.Repeat("b", more)+long, min(8, more))
	}
	wantNear(t, "", long, 8)
}
