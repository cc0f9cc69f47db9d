package pack

import "joust/api"

// Writer lays bytes. Behind its first error it has none.
type Writer struct {
	laid []byte
	err  api.Errno
}

// NewWriter is one without bytes.
func NewWriter() *Writer { return &Writer{} }

// Number lays a number in so many bytes.
func (w *Writer) Number(x uint64, size int) { w.number(plain(), x, size) }

// Signed lays a number with its sign in so many bytes.
func (w *Writer) Signed(x int64, size int) { w.number(signed(), uint64(x), size) }

// Bytes lays bytes as they are.
func (w *Writer) Bytes(s string) {
	if w.err == api.OK {
		w.laid = append(w.laid, s...)
	}
}

// Text lays a text with its length ahead in one byte.
func (w *Writer) Text(s string) {
	// A text above 255 bytes is just one whose length does not fit here; then its bytes are not laid either.
	w.Number(uint64(len(s)), 1)
	w.Bytes(s)
}

// Done gives what was laid, or the first error.
func (w *Writer) Done() (string, api.Errno) { return string(w.laid), w.err }

// number lays a number of either kind, its highest byte first.
func (w *Writer) number(k kind, x uint64, size int) {
	if !k.holds(x, size) {
		w.fail()
	}
	if w.err != api.OK {
		return
	}
	for i := size - 1; i >= 0; i-- {
		w.laid = append(w.laid, byte(x>>(8*i)))
	}
}

// fail breaks off: what was laid will never be asked for. A Writer has one kind of error, so the first is kept.
func (w *Writer) fail() { w.laid, w.err = nil, api.ErrRange }
