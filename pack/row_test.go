package pack_test

import (
	"fmt"
	"strings"
	"testing"
	"unsafe"

	"joust/api"
	"joust/pack"
)

// dice is a row of numbers that look like chance and are the same in each run.
type dice uint64

func (d *dice) word() uint64 {
	*d ^= *d << 13
	*d ^= *d >> 7
	*d ^= *d << 17
	return uint64(*d) * 0x2545f4914f6cdd1d
}

func (d *dice) below(n int) int { return int(d.word() % uint64(n)) }

func (d *dice) bytes(n int) string {
	s := make([]byte, n)
	for i := range s {
		s[i] = byte(d.word() >> 40)
	}
	return string(s)
}

// call is one call of a Writer, or of a Reader: of which kind, of which size, and of what.
type call struct {
	kind   string
	size   int
	number uint64
	signed int64
	text   string
}

func (c call) lay(w *pack.Writer) {
	switch c.kind {
	case "number":
		w.Number(c.number, c.size)
	case "signed":
		w.Signed(c.signed, c.size)
	case "text":
		w.Text(c.text)
	default:
		w.Bytes(c.text)
	}
}

// take is the call with what a Reader answers to it.
func (c call) take(r *pack.Reader) call {
	got := call{kind: c.kind, size: c.size}
	switch c.kind {
	case "number":
		got.number = r.Number(c.size)
	case "signed":
		got.signed = r.Signed(c.size)
	case "text":
		got.text = r.Text()
	case "rest":
		got.text = r.Rest()
	default:
		got.text = r.Bytes(c.size)
	}
	return got
}

// anyCall is a call that lays something that fits: numbers of all lengths, at the edges of their size above all.
func (d *dice) anyCall() call {
	size := 1 + d.below(8)
	spare := 64 - 8*size
	x := d.word() >> d.below(64)
	if d.below(3) == 0 {
		x = []uint64{0, 1, 1 << (8*size - 1), 1<<(8*size-1) - 1, 1<<64 - 1}[d.below(5)]
	}
	switch d.below(4) {
	case 0:
		return call{kind: "number", size: size, number: x << spare >> spare}
	case 1:
		return call{kind: "signed", size: size, signed: int64(x<<spare) >> spare}
	case 2:
		return call{kind: "text", text: d.bytes([]int{0, 1, d.below(20), 254, 255}[d.below(5)])}
	}
	n := []int{0, 1, d.below(20), d.below(2000)}[d.below(4)]
	return call{kind: "bytes", size: n, text: d.bytes(n)}
}

// P5.2: what any row of calls lays is taken by the same calls, and Done is OK.
func TestThereAndBack(t *testing.T) {
	d := dice(52)
	for row := range 3000 {
		var calls []call
		for range d.below(12) {
			calls = append(calls, d.anyCall())
		}
		if d.below(3) == 0 {
			s := d.bytes(d.below(30))
			calls = append(calls, call{kind: "rest", text: s})
		}
		w := pack.NewWriter()
		for _, c := range calls {
			c.lay(w)
		}
		s, e := w.Done()
		if e != api.OK {
			t.Fatalf("row %d: %#v is laid with %v", row, calls, e)
		}
		r := pack.NewReader(s)
		for i, c := range calls {
			if got := c.take(r); got != c {
				t.Fatalf("row %d, call %d: %#v is taken as %#v", row, i, c, got)
			}
		}
		wantLeft(t, "a row that was taken", r, 0, api.OK)
	}
}

// P5.2: numbers with and without a sign, of each size, at each of their edges, are taken in one row.
func TestEdgesThereAndBack(t *testing.T) {
	var calls []call
	for size := 1; size <= 8; size++ {
		spare := 64 - 8*size
		for bits := range 8 * size {
			for by := range uint64(3) {
				x := (1<<bits + by - 1) << spare
				calls = append(calls, call{kind: "number", size: size, number: x >> spare}, call{kind: "signed", size: size, signed: int64(x) >> spare}, call{kind: "signed", size: size, signed: int64(-x) >> spare})
			}
		}
	}
	w := pack.NewWriter()
	for _, c := range calls {
		c.lay(w)
	}
	s, e := w.Done()
	if e != api.OK {
		t.Fatalf("Done: %v", e)
	}
	r := pack.NewReader(s)
	for _, c := range calls {
		if got := c.take(r); got != c {
			t.Fatalf("%#v is taken as %#v", c, got)
		}
	}
	wantLeft(t, "all edges", r, 0, api.OK)
}

// P5.3: any bytes that are taken whole by some calls are laid again by the same calls of what was answered.
func TestOneForm(t *testing.T) {
	d := dice(53)
	whole := 0
	for row := range 6000 {
		s := d.bytes(d.below(40))
		if d.below(2) == 0 { // Bytes near 0 make texts that are there.
			s = strings.Map(func(c rune) rune { return c % 6 }, s)
		}
		r := pack.NewReader(s)
		var taken []call
		for r.Left() > 0 {
			kinds := []string{"number", "signed", "text", "bytes", "rest"}
			c := call{kind: kinds[d.below(len(kinds))]}
			if c.kind == "number" || c.kind == "signed" || c.kind == "bytes" {
				c.size = 1 + d.below(8)
			}
			taken = append(taken, c.take(r))
		}
		if r.Done() != api.OK {
			continue
		}
		whole++
		w := pack.NewWriter()
		for _, c := range taken {
			c.lay(w)
		}
		wantLaid(t, fmt.Sprintf("row %d, %#v", row, taken), w, s, api.OK)
	}
	if whole < 2000 {
		t.Errorf("the run asks too little: %d rows were whole", whole)
	}
}

// P5.3: each byte, each pair of bytes, as numbers of both kinds, is laid again as it was.
func TestOneFormOfShortNumbers(t *testing.T) {
	for x := range 1 << 16 {
		for _, s := range []string{string([]byte{byte(x >> 8), byte(x)}), string([]byte{byte(x)})} {
			r, q := pack.NewReader(s), pack.NewReader(s)
			w, v := pack.NewWriter(), pack.NewWriter()
			w.Number(r.Number(len(s)), len(s))
			v.Signed(q.Signed(len(s)), len(s))
			if r.Done() != api.OK || q.Done() != api.OK {
				t.Fatalf("% x: %v, %v", s, r.Done(), q.Done())
			}
			wantLaid(t, "a number", w, s, api.OK)
			wantLaid(t, "a signed number", v, s, api.OK)
		}
	}
}

// P5.1, P5.3: the bytes of a row are one behind the other: where a number stands has nothing to do with what stands beside it.
func TestPlacesInARow(t *testing.T) {
	d := dice(54)
	for range 500 {
		w := pack.NewWriter()
		want := ""
		for range 8 {
			c := d.anyCall()
			alone := pack.NewWriter()
			c.lay(alone)
			s, _ := alone.Done()
			want += s
			c.lay(w)
			wantLaid(t, "a row", w, want, api.OK)
		}
	}
}

// brokenWriters are Writers that broke off, each in another way, with bytes laid ahead of it.
func brokenWriters() map[string]*pack.Writer {
	made := map[string]*pack.Writer{}
	for what, do := range map[string]func(w *pack.Writer){
		"a number that does not fit":        func(w *pack.Writer) { w.Number(256, 1) },
		"a signed number that does not fit": func(w *pack.Writer) { w.Signed(-129, 1) },
		"a number's size":                   func(w *pack.Writer) { w.Number(0, 0) },
		"a signed number's size":            func(w *pack.Writer) { w.Signed(0, 9) },
		"a long text":                       func(w *pack.Writer) { w.Text(strings.Repeat("t", 256)) },
	} {
		for ahead := range 2 {
			w := pack.NewWriter()
			w.Bytes(strings.Repeat("ahead", ahead))
			do(w)
			made[fmt.Sprint(what, " behind ", ahead)] = w
		}
	}
	return made
}

// P5.4: behind each kind of error of a Writer every call lays nothing, and the error stays.
func TestFirstErrorOfAWriter(t *testing.T) {
	for what, w := range brokenWriters() {
		wantLaid(t, what, w, "", api.ErrRange)
		for range 2 {
			for i, do := range []func(){
				func() { w.Number(1, 1) },
				func() { w.Signed(-1, 2) },
				func() { w.Text("") },
				func() { w.Text("ab") },
				func() { w.Bytes("") },
				func() { w.Bytes("x") },
				func() { w.Number(1<<64-1, 8) },
				func() { w.Number(256, 1) },
				func() { w.Signed(128, 1) },
				func() { w.Number(0, -1) },
				func() { w.Text(strings.Repeat("t", 256)) },
			} {
				do()
				wantLaid(t, fmt.Sprintf("%s, call %d", what, i), w, "", api.ErrRange)
			}
		}
	}
}

// P5.4: behind each kind of error of a Reader every call takes nothing and answers zero values, and the first error stays, whatever comes.
func TestFirstErrorOfAReader(t *testing.T) {
	for _, x := range []struct {
		what, s string
		do      func(r *pack.Reader)
		e       api.Errno
	}{
		{"Number, cut", "\x01", func(r *pack.Reader) { r.Number(2) }, api.ErrShort},
		{"Signed, cut", "\xff\xff", func(r *pack.Reader) { r.Signed(3) }, api.ErrShort},
		{"Bytes, cut", "\x01a", func(r *pack.Reader) { r.Bytes(3) }, api.ErrShort},
		{"Text, cut", "\x03ab", func(r *pack.Reader) { r.Text() }, api.ErrShort},
		{"Text of nothing", "", func(r *pack.Reader) { r.Text() }, api.ErrShort},
		{"a number's size", "\x01abcdefghijkl", func(r *pack.Reader) { r.Number(0) }, api.ErrRange},
		{"a signed number's size", "\x01abcdefghijkl", func(r *pack.Reader) { r.Signed(9) }, api.ErrRange},
		{"Bytes below 0", "\x01abcdefghijkl", func(r *pack.Reader) { r.Bytes(-1) }, api.ErrRange},
		{"a size at the end", "", func(r *pack.Reader) { r.Number(-1) }, api.ErrRange},
	} {
		r := pack.NewReader("ahead" + x.s)
		r.Bytes(5)
		x.do(r)
		wantLeft(t, x.what, r, 0, x.e)
		for range 2 {
			for i, c := range []call{
				{kind: "bytes", size: 0}, {kind: "number", size: 1}, {kind: "signed", size: 1}, {kind: "text"}, {kind: "rest"},
				{kind: "bytes", size: 1}, {kind: "number", size: 8}, {kind: "signed", size: 8},
				{kind: "bytes", size: -1}, {kind: "number", size: 0}, {kind: "signed", size: 9}, {kind: "bytes", size: 1 << 40},
			} {
				if got := c.take(r); got != c {
					t.Fatalf("%s, call %d: %#v", x.what, i, got)
				}
				wantLeft(t, fmt.Sprintf("%s, call %d", x.what, i), r, 0, x.e)
			}
		}
	}
}

// P5.5: Writers in turns: what one lays, or breaks off by, is not the other's business.
func TestWritersApart(t *testing.T) {
	d := dice(55)
	for range 200 {
		a, b, broken := pack.NewWriter(), pack.NewWriter(), pack.NewWriter()
		wantA, wantB := "", ""
		broken.Number(256, 1)
		for range 10 {
			s := d.bytes(d.below(9))
			if d.below(2) == 0 {
				a.Bytes(s)
				wantA += s
			} else {
				b.Bytes(s)
				wantB += s
			}
			broken.Bytes(s)
			wantLaid(t, "a", a, wantA, api.OK)
			wantLaid(t, "b", b, wantB, api.OK)
			wantLaid(t, "broken", broken, "", api.ErrRange)
		}
		a.Text(strings.Repeat("t", 256))
		b.Number(7, 1)
		wantLaid(t, "a, broken", a, "", api.ErrRange)
		wantLaid(t, "b", b, wantB+"\x07", api.OK)
	}
}

// P5.5: Readers in turns, of the same bytes: what one takes, or breaks off by, is not the other's business.
func TestReadersApart(t *testing.T) {
	d := dice(56)
	for range 200 {
		s := d.bytes(40)
		a, b, broken := pack.NewReader(s), pack.NewReader(s), pack.NewReader(s)
		broken.Bytes(-1)
		atA, atB := 0, 0
		for atA+atB < 60 {
			r, at := a, &atA
			if d.below(2) == 0 {
				r, at = b, &atB
			}
			n := min(d.below(5), len(s)-*at)
			if got := r.Bytes(n); got != s[*at:*at+n] {
				t.Fatalf("%x of %x at %d", got, s, *at)
			}
			*at += n
			if a.Left() != len(s)-atA || b.Left() != len(s)-atB {
				t.Fatalf("Left %d and %d, want %d and %d", a.Left(), b.Left(), len(s)-atA, len(s)-atB)
			}
			wantLeft(t, "broken", broken, 0, api.ErrRange)
		}
		a.Number(9)
		wantLeft(t, "a, broken", a, 0, api.ErrRange)
		if got := b.Rest(); got != s[atB:] {
			t.Fatalf("Rest %x of %x at %d", got, s, atB)
		}
		wantLeft(t, "b", b, 0, api.OK)
	}
}

// share tells whether two texts have memory in common.
func share(a, b string) bool {
	p, q := uintptr(unsafe.Pointer(unsafe.StringData(a))), uintptr(unsafe.Pointer(unsafe.StringData(b)))
	return len(a) > 0 && len(b) > 0 && p < q+uintptr(len(b)) && q < p+uintptr(len(a))
}

// P5.5 (R11): what is answered shares no memory with what was handed in, nor with another answer.
func TestAnswersAreTheirOwn(t *testing.T) {
	s := strings.Repeat("\x10bytes of any kind", 8)
	r := pack.NewReader(s)
	w := pack.NewWriter()
	w.Bytes(s)
	first, _ := w.Done()
	second, _ := w.Done()
	w.Bytes("more")
	third, _ := w.Done()
	all := []string{s, r.Text(), r.Bytes(20), r.Text(), r.Rest(), first, second, third}
	for i, a := range all {
		for k, b := range all[:i] {
			if share(a, b) {
				t.Errorf("texts number %d and %d share memory", k, i)
			}
		}
	}
}
