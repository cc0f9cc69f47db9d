package pack_test

import (
	"fmt"
	"math"
	"math/big"
	"strings"
	"testing"

	"joust/api"
	"joust/pack"
)

// noSizes are sizes that no number has.
var noSizes = []int{0, 9, -1, 10, 16, 64, -8, 1<<32 + 1, -1 << 32, 1<<61 + 1, 1<<62 + 1, math.MaxInt, math.MinInt, math.MinInt + 1}

// wantLaid holds what a Writer is Done with against what should be laid.
func wantLaid(t *testing.T, what string, w *pack.Writer, want string, e api.Errno) {
	t.Helper()
	for range 2 {
		if s, got := w.Done(); s != want || got != e {
			t.Fatalf("%s: Done = % x, %v, want % x, %v", what, s, got, want, e)
		}
	}
}

// wantLeft holds what a Reader tells without a change against what should be left and kept.
func wantLeft(t *testing.T, what string, r *pack.Reader, left int, e api.Errno) {
	t.Helper()
	for range 2 {
		if n, got := r.Left(), r.Done(); n != left || got != e {
			t.Fatalf("%s: Left %d, Done %v, want %d, %v", what, n, got, left, e)
		}
	}
}

// power is 2^n, and by more than it.
func power(n int, by int64) *big.Int {
	x := new(big.Int).Lsh(big.NewInt(1), uint(n))
	return x.Add(x, big.NewInt(by))
}

// laid is a number in so many bytes, reckoned by math/big: of one below 0 what is to 2^(8 size) what -1 is to 256.
func laid(x *big.Int, size int) string {
	if x.Sign() < 0 {
		x = new(big.Int).Add(x, power(8*size, 0))
	}
	return string(x.FillBytes(make([]byte, size)))
}

// P5.1: the chapter's first example, laid and taken.
func TestExampleThereAndBack(t *testing.T) {
	w := pack.NewWriter()
	w.Number(258, 2)
	w.Signed(-2, 1)
	w.Text("ab")
	w.Bytes("c")
	wantLaid(t, "example 1", w, "\x01\x02\xfe\x02abc", api.OK)
	r := pack.NewReader("\x01\x02\xfe\x02abc")
	wantLeft(t, "example 1, new", r, 7, api.ErrRange)
	if x := r.Number(2); x != 258 {
		t.Errorf("Number(2) = %d", x)
	}
	if x := r.Signed(1); x != -2 {
		t.Errorf("Signed(1) = %d", x)
	}
	if s := r.Text(); s != "ab" {
		t.Errorf("Text() = %q", s)
	}
	wantLeft(t, "example 1, ahead of the rest", r, 1, api.ErrRange)
	if s := r.Rest(); s != "c" {
		t.Errorf("Rest() = %q", s)
	}
	wantLeft(t, "example 1, at the end", r, 0, api.OK)
}

// P5.1, P5.4: the chapter's other examples.
func TestExamples(t *testing.T) {
	w := pack.NewWriter()
	wantLaid(t, "example 5, new", w, "", api.OK)
	w.Number(1<<64-1, 8)
	wantLaid(t, "example 5", w, strings.Repeat("\xff", 8), api.OK)

	w = pack.NewWriter()
	w.Number(1, 1)
	w.Number(256, 1)
	w.Number(2, 1)
	wantLaid(t, "example 2", w, "", api.ErrRange)
	w.Bytes("x")
	wantLaid(t, "example 2, behind it", w, "", api.ErrRange)

	r := pack.NewReader("\x01")
	if x := r.Number(2); x != 0 {
		t.Errorf("example 3: Number(2) = %d", x)
	}
	wantLeft(t, "example 3", r, 0, api.ErrShort)
	if x := r.Number(1); x != 0 {
		t.Errorf("example 3: Number(1) = %d", x)
	}
	if s := r.Rest(); s != "" {
		t.Errorf("example 3: Rest() = %q", s)
	}

	r = pack.NewReader("\x03ab")
	if s := r.Text(); s != "" {
		t.Errorf("example 4: Text() = %q", s)
	}
	wantLeft(t, "example 4", r, 0, api.ErrShort)
	r = pack.NewReader("\xff\xff")
	if x := r.Signed(2); x != -1 {
		t.Errorf("example 4: Signed(2) = %d", x)
	}
	wantLeft(t, "example 4, two bytes taken", r, 0, api.OK)
	if x := r.Number(0); x != 0 {
		t.Errorf("example 4: Number(0) = %d", x)
	}
	wantLeft(t, "example 4, a size of 0", r, 0, api.ErrRange)
}

// P5.1: numbers of each size: the least, the greatest, some between, and the first ones that do not fit.
func TestNumbersOfEachSize(t *testing.T) {
	for size := 1; size <= 8; size++ {
		xs := []*big.Int{big.NewInt(0), big.NewInt(1), big.NewInt(0x0123456789abcdef), power(64, -1), power(63, 0)}
		for bits := range 64 {
			xs = append(xs, power(bits, -1), power(bits, 0), power(bits, 1))
		}
		for _, x := range xs {
			want, e := "", api.ErrRange
			if x.BitLen() <= 8*size {
				want, e = laid(x, size), api.OK
			}
			w := pack.NewWriter()
			w.Number(x.Uint64(), size)
			what := fmt.Sprintf("Number(%d, %d)", x, size)
			wantLaid(t, what, w, want, e)
			if e != api.OK {
				continue
			}
			r := pack.NewReader(want + "!")
			if got := r.Number(size); got != x.Uint64() {
				t.Fatalf("%s is taken as %d", what, got)
			}
			wantLeft(t, what, r, 1, api.ErrRange)
		}
	}
}

// P5.1: the same of numbers with a sign.
func TestSignedNumbersOfEachSize(t *testing.T) {
	for size := 1; size <= 8; size++ {
		least, greatest := new(big.Int).Neg(power(8*size-1, 0)), power(8*size-1, -1)
		xs := []*big.Int{big.NewInt(0), big.NewInt(0x0123456789abcdef), big.NewInt(math.MinInt64), big.NewInt(math.MaxInt64)}
		for bits := range 63 {
			for by := range int64(3) {
				x := power(bits, by-1)
				xs = append(xs, x, new(big.Int).Neg(x))
			}
		}
		for _, x := range xs {
			want, e := "", api.ErrRange
			if x.Cmp(least) >= 0 && x.Cmp(greatest) <= 0 {
				want, e = laid(x, size), api.OK
			}
			w := pack.NewWriter()
			w.Signed(x.Int64(), size)
			what := fmt.Sprintf("Signed(%d, %d)", x, size)
			wantLaid(t, what, w, want, e)
			if e != api.OK {
				continue
			}
			r := pack.NewReader(want + "!")
			if got := r.Signed(size); got != x.Int64() {
				t.Fatalf("%s is taken as %d", what, got)
			}
			wantLeft(t, what, r, 1, api.ErrRange)
		}
	}
}

// P5.1: the chapter's hard places of numbers, as bytes that are written out.
func TestHardNumbers(t *testing.T) {
	for _, x := range []struct {
		what string
		do   func(w *pack.Writer)
		want string
		e    api.Errno
	}{
		{"Number(255, 1)", func(w *pack.Writer) { w.Number(255, 1) }, "\xff", api.OK},
		{"Number(256, 1)", func(w *pack.Writer) { w.Number(256, 1) }, "", api.ErrRange},
		{"Number(2^63, 8)", func(w *pack.Writer) { w.Number(1<<63, 8) }, "\x80\x00\x00\x00\x00\x00\x00\x00", api.OK},
		{"Number(2^63, 7)", func(w *pack.Writer) { w.Number(1<<63, 7) }, "", api.ErrRange},
		{"Number(66051, 5)", func(w *pack.Writer) { w.Number(66051, 5) }, "\x00\x00\x01\x02\x03", api.OK},
		{"Signed(127, 1)", func(w *pack.Writer) { w.Signed(127, 1) }, "\x7f", api.OK},
		{"Signed(128, 1)", func(w *pack.Writer) { w.Signed(128, 1) }, "", api.ErrRange},
		{"Signed(255, 1)", func(w *pack.Writer) { w.Signed(255, 1) }, "", api.ErrRange},
		{"Signed(-128, 1)", func(w *pack.Writer) { w.Signed(-128, 1) }, "\x80", api.OK},
		{"Signed(-129, 1)", func(w *pack.Writer) { w.Signed(-129, 1) }, "", api.ErrRange},
		{"Signed(-256, 1)", func(w *pack.Writer) { w.Signed(-256, 1) }, "", api.ErrRange},
		{"Signed(-2, 3)", func(w *pack.Writer) { w.Signed(-2, 3) }, "\xff\xff\xfe", api.OK},
		{"Signed(2^63 - 1, 8)", func(w *pack.Writer) { w.Signed(1<<63-1, 8) }, "\x7f\xff\xff\xff\xff\xff\xff\xff", api.OK},
		{"Signed(-2^63, 8)", func(w *pack.Writer) { w.Signed(-1<<63, 8) }, "\x80\x00\x00\x00\x00\x00\x00\x00", api.OK},
		{"Signed(-2^63, 7)", func(w *pack.Writer) { w.Signed(-1<<63, 7) }, "", api.ErrRange},
	} {
		w := pack.NewWriter()
		x.do(w)
		wantLaid(t, x.what, w, x.want, x.e)
	}
}

// P5.1: sizes that are none are ErrRange: for the number 0 too, and where no bytes are left, ahead of ErrShort.
func TestNoSizes(t *testing.T) {
	for _, size := range noSizes {
		for _, x := range []uint64{0, 1, 1<<64 - 1} {
			w := pack.NewWriter()
			w.Bytes("a")
			w.Number(x, size)
			wantLaid(t, fmt.Sprintf("Number(%d, %d)", x, size), w, "", api.ErrRange)
			w = pack.NewWriter()
			w.Signed(int64(x), size)
			wantLaid(t, fmt.Sprintf("Signed(%d, %d)", int64(x), size), w, "", api.ErrRange)
		}
		for _, s := range []string{"", "a", "12345678", strings.Repeat("a", 100)} {
			r := pack.NewReader(s)
			if x := r.Number(size); x != 0 {
				t.Errorf("Number(%d) = %d", size, x)
			}
			wantLeft(t, fmt.Sprintf("Number(%d) of %q", size, s), r, 0, api.ErrRange)
			r = pack.NewReader(s)
			if x := r.Signed(size); x != 0 {
				t.Errorf("Signed(%d) = %d", size, x)
			}
			wantLeft(t, fmt.Sprintf("Signed(%d) of %q", size, s), r, 0, api.ErrRange)
		}
	}
}

// P5.1: of each size, a Reader with all bytes, and with one too few: a number that breaks off is 0, and what there was of it is gone.
func TestNumbersThatBreakOff(t *testing.T) {
	for size := 1; size <= 8; size++ {
		full := strings.Repeat("\xff", size)
		greatest := power(8*size, -1).Uint64()
		r, s := pack.NewReader(full), pack.NewReader(full)
		if x := r.Number(size); x != greatest {
			t.Errorf("Number(%d) = %d, want %d", size, x, greatest)
		}
		if x := s.Signed(size); x != -1 {
			t.Errorf("Signed(%d) = %d, want -1", size, x)
		}
		wantLeft(t, "a number, whole", r, 0, api.OK)
		wantLeft(t, "a signed number, whole", s, 0, api.OK)
		for there := range size {
			r, s := pack.NewReader(full[:there]), pack.NewReader(full[:there])
			if x, y := r.Number(size), s.Signed(size); x != 0 || y != 0 {
				t.Errorf("size %d of %d bytes: %d, %d", size, there, x, y)
			}
			wantLeft(t, "a number, cut", r, 0, api.ErrShort)
			wantLeft(t, "a signed number, cut", s, 0, api.ErrShort)
		}
	}
}

// P5.1: texts of 0 to 300 bytes: up to 255 they are laid and taken, above ErrRange.
func TestTexts(t *testing.T) {
	for n := range 301 {
		s := strings.Repeat("\x00\xff\n\xc3", n)[:n]
		want, e := "", api.ErrRange
		if n <= 255 {
			want, e = string([]byte{byte(n)})+s, api.OK
		}
		w := pack.NewWriter()
		w.Text(s)
		wantLaid(t, fmt.Sprintf("a text of %d bytes", n), w, want, e)
		if e != api.OK {
			continue
		}
		r := pack.NewReader(want + "!")
		if got := r.Text(); got != s {
			t.Fatalf("a text of %d bytes is taken as %q", n, got)
		}
		wantLeft(t, "behind a text", r, 1, api.ErrRange)
	}
	for _, n := range []int{512, 65535, 65536, 65791, 1 << 24} {
		w := pack.NewWriter()
		w.Text(strings.Repeat("t", n))
		wantLaid(t, fmt.Sprintf("a text of %d bytes", n), w, "", api.ErrRange)
	}
}

// P5.1: a text whose length says more than there is: ErrShort, and its bytes are not given to Rest.
func TestTextsThatBreakOff(t *testing.T) {
	for _, s := range []string{"", "\x01", "\x02a", "\xff", "\xff" + strings.Repeat("a", 254), "\x80" + strings.Repeat("a", 127)} {
		r := pack.NewReader(s)
		if got := r.Text(); got != "" {
			t.Errorf("Text of % x is %q", s, got)
		}
		wantLeft(t, "a text, cut", r, 0, api.ErrShort)
		if got := r.Rest(); got != "" {
			t.Errorf("Rest behind a text of % x is %q", s, got)
		}
		wantLeft(t, "a text, cut, and Rest", r, 0, api.ErrShort)
	}
}

// P5.1: Bytes of nothing, at the beginning, between and at the end; no bytes are no error.
func TestBytesOfNothing(t *testing.T) {
	w := pack.NewWriter()
	w.Bytes("")
	wantLaid(t, "no bytes", w, "", api.OK)
	w.Bytes("ab\x00")
	w.Bytes("")
	w.Bytes("\xff")
	wantLaid(t, "bytes", w, "ab\x00\xff", api.OK)
	r := pack.NewReader("ab")
	for left := 2; left > 0; left-- {
		if s := r.Bytes(0); s != "" {
			t.Errorf("Bytes(0) = %q", s)
		}
		wantLeft(t, "behind Bytes(0)", r, left, api.ErrRange)
		r.Bytes(1)
	}
	if s := r.Bytes(0) + pack.NewReader("").Bytes(0); s != "" {
		t.Errorf("Bytes(0) at the end = %q", s)
	}
	wantLeft(t, "at the end", r, 0, api.OK)
}

// P5.1: Bytes of all that is there, of one more, of less than none, of the least and the greatest int.
func TestBytesOfAnyLength(t *testing.T) {
	for _, s := range []string{"", "a", "a\x00\xff", strings.Repeat("xyz", 1000)} {
		for _, n := range []int{0, 1, 2, len(s) - 1, len(s), len(s) + 1, -1, -2, math.MaxInt, math.MaxInt - 1, math.MinInt, math.MinInt + 1, 1 << 32, -1 << 32} {
			want, left, e := "", 0, api.OK
			switch {
			case n < 0:
				e = api.ErrRange
			case n > len(s):
				e = api.ErrShort
			case n < len(s):
				want, left, e = s[:n], len(s)-n, api.ErrRange
			default:
				want = s
			}
			r := pack.NewReader(s)
			if got := r.Bytes(n); got != want {
				t.Errorf("Bytes(%d) of %d bytes has %d", n, len(s), len(got))
			}
			wantLeft(t, fmt.Sprintf("Bytes(%d) of %d bytes", n, len(s)), r, left, e)
			if got := r.Rest(); got != s[len(s)-left:] {
				t.Errorf("Rest behind Bytes(%d) of %d bytes has %d", n, len(s), len(got))
			}
		}
	}
}

// P5.1: Rest takes all; at the end there is none, and that is no error.
func TestRest(t *testing.T) {
	r := pack.NewReader("")
	if s := r.Rest(); s != "" {
		t.Errorf("Rest of nothing is %q", s)
	}
	wantLeft(t, "nothing", r, 0, api.OK)
	r = pack.NewReader("a\x00b")
	if s := r.Rest(); s != "a\x00b" {
		t.Errorf("Rest is %q", s)
	}
	if s := r.Rest(); s != "" {
		t.Errorf("Rest at the end is %q", s)
	}
	wantLeft(t, "at the end", r, 0, api.OK)
	if x := r.Number(1); x != 0 {
		t.Errorf("Number at the end is %d", x)
	}
	wantLeft(t, "behind the end", r, 0, api.ErrShort)
}

// P5.1: Done changes nothing: ErrRange for bytes that are left is not kept, and a Writer goes on.
func TestDoneChangesNothing(t *testing.T) {
	w, r := pack.NewWriter(), pack.NewReader("abcd")
	for i := range 4 {
		wantLaid(t, "between", w, "abcd"[:i], api.OK)
		wantLeft(t, "between", r, 4-i, api.ErrRange)
		w.Bytes(r.Bytes(1))
	}
	wantLaid(t, "at the end", w, "abcd", api.OK)
	wantLeft(t, "at the end", r, 0, api.OK)
	w.Number(0, 0)
	wantLaid(t, "behind an error", w, "", api.ErrRange)
}
