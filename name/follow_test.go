package name_test

import (
	"math"
	"strings"
	"testing"
	"time"
	"unsafe"

	"joust/api"
	"joust/name"
)

// 6.8: what follows of one text.
func wantFollows(t *testing.T, s string) {
	t.Helper()
	f := name.Fold(s)
	if name.Fold(f) != f {
		t.Fatalf("Fold of Fold of %q is %q", s, name.Fold(f))
	}
	if len(f) != len(s) || name.Runes(f) != name.Runes(s) {
		t.Fatalf("Fold of %q has %d bytes, %d runes", s, len(f), name.Runes(f))
	}
	if name.Check(s) != name.Check(f) {
		t.Fatalf("Check of %q is %v, of its Fold %v", s, name.Check(s), name.Check(f))
	}
	if !name.Same(s, s) || !name.Same(s, f) || name.Near(s, s) != 0 {
		t.Fatalf("%q is not itself", s)
	}
	all := name.Runes(s)
	for _, n := range append([]int{all - 1, all, all + 1}, counts...) {
		if got := name.Runes(name.Pad(s, n)); got != max(0, min(n, 4096)) {
			t.Fatalf("Pad of %q to %d has %d runes", s, n, got)
		}
		cut := name.Cut(s, n)
		if !strings.HasPrefix(s, cut) || name.Runes(cut) != max(0, min(n, all)) {
			t.Fatalf("Cut of %q at %d is %q", s, n, cut)
		}
	}
}

// 6.8: of any text.
func TestWhatFollows(t *testing.T) {
	d := dice(68)
	for _, s := range append(edgeTexts(2), odd...) {
		wantFollows(t, s)
	}
	for n := range 1000 {
		wantFollows(t, d.bytes(n%30))
		wantFollows(t, d.text(n%15))
	}
}

// 6.8: a name's Fold is a name, of names of all its runes.
func TestFoldOfNamesIsAName(t *testing.T) {
	for _, s := range alone() {
		if name.Check(s) == api.OK && (name.Check(name.Fold(s)) != api.OK || name.Check(name.Fold(strings.Repeat(s, 12))) != api.OK) {
			t.Errorf("Fold of the name %q is none", s)
		}
	}
}

func sameRunes(a, b string) bool {
	from, to := pieces(a), pieces(b)
	if len(from) != len(to) {
		return false
	}
	for i := range from {
		if from[i].r != to[i].r {
			return false
		}
	}
	return true
}

// 6.8: what follows of two and of three texts.
func TestWhatFollowsOfSeveral(t *testing.T) {
	d := dice(688)
	some := func() string {
		if d.below(3) == 0 {
			s := odd[d.below(len(odd))]
			return s[:min(len(s), 20)]
		}
		return d.text(d.below(7))
	}
	for range 20000 {
		a, b, c := some(), some(), some()
		ab, bc, ac := name.Near(a, b), name.Near(b, c), name.Near(a, c)
		if (ab == 0) != sameRunes(a, b) {
			t.Fatalf("Near(%q, %q) = %d", a, b, ab)
		}
		if ba := name.Near(b, a); ba != ab {
			t.Fatalf("Near(%q, %q) = %d, the other way %d", a, b, ab, ba)
		}
		if ac > ab+bc {
			t.Fatalf("%q, %q, %q: %d is above %d and %d", a, b, c, ac, ab, bc)
		}
		if apart := name.Runes(a) - name.Runes(b); ab < min(8, max(apart, -apart)) || ab > 8 {
			t.Fatalf("Near(%q, %q) = %d", a, b, ab)
		}
		if name.Same(a, b) != name.Same(b, a) || name.Same(a, b) && name.Same(b, c) && !name.Same(a, c) {
			t.Fatalf("Same of %q, %q, %q is no equality", a, b, c)
		}
	}
}

// 6.9: each call with texts of a million bytes. One that went with the square would take minutes; the bound leaves a slow machine its time.
func TestLongTextsEndInTime(t *testing.T) {
	if testing.Short() {
		t.Skip("takes seconds")
	}
	const million, most = 1000000, 10 * time.Second
	for _, piece := range []string{"a", "A", "\u00c4", "\u20ac", "\xff", "\xe2\x82", "ab"} {
		s := strings.Repeat(piece, million/len(piece))
		runes := million / len(piece) * len(pieces(piece))
		other := strings.Repeat("#", runes)
		for what, call := range map[string]func() bool{
			"Check": func() bool { return name.Check(s) == api.ErrName },
			"Fold":  func() bool { return name.Fold(s) == strings.Repeat(plainFold(piece), million/len(piece)) },
			"Same":  func() bool { return name.Same(s, s) && !name.Same(s, other) },
			"Runes": func() bool { return name.Runes(s) == runes },
			"Cut":   func() bool { return name.Cut(s, math.MaxInt) == s && name.Runes(name.Cut(s, runes-1)) == runes-1 },
			"Pad":   func() bool { return name.Runes(name.Pad(s, math.MaxInt)) == 4096 },
			"Near":  func() bool { return name.Near(s, s) == 0 && name.Near(s, other) == 8 },
			"moved": func() bool { return name.Near("#"+s, s+"#") == 2 },
			"short": func() bool { return name.Near(s, "") == 8 && name.Near("", s) == 8 },
		} {
			begin := time.Now()
			if !call() {
				t.Errorf("%s of a million bytes of %q", what, piece)
			}
			if took := time.Since(begin); took > most {
				t.Errorf("%s of a million bytes of %q took %v", what, piece, took)
			}
		}
	}
}

// share tells whether two texts have memory in common.
func share(a, b string) bool {
	p, q := uintptr(unsafe.Pointer(unsafe.StringData(a))), uintptr(unsafe.Pointer(unsafe.StringData(b)))
	return a != "" && b != "" && p < q+uintptr(len(b)) && q < p+uintptr(len(a))
}

// R11: no answer shares memory with what was handed in, nor with another answer.
func TestAnswersAreTheirOwn(t *testing.T) {
	for _, s := range []string{"abc", "ABC", "\xff\xfe\xfd", strings.Repeat("\u00e4", 5000)} {
		texts := []string{s}
		for range 2 {
			texts = append(texts, name.Fold(s), name.Cut(s, 2), name.Cut(s, 3), name.Cut(s, math.MaxInt), name.Pad(s, 2), name.Pad(s, 3), name.Pad(s, 9), name.Pad(s, math.MaxInt))
		}
		for i, a := range texts {
			for k, b := range texts[:i] {
				if share(a, b) {
					t.Errorf("texts number %d and %d of %.10q share memory", k, i, s)
				}
			}
		}
	}
}

// R13: a call answers the same, whatever was asked between.
func TestNothingIsKept(t *testing.T) {
	ask := func(a, b string) string {
		n := []byte{byte(name.Check(a)), byte(name.Runes(a)), byte(name.Near(a, b))}
		return string(n) + name.Fold(a) + name.Cut(a, 2) + name.Pad(a, 5)
	}
	for i, a := range odd {
		b := odd[(i+1)%len(odd)]
		first := ask(a, b)
		ask(b, a)
		if again := ask(a, b); again != first {
			t.Errorf("%.40q is answered otherwise the second time", a)
		}
	}
}
