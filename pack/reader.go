package pack

import "joust/api"

// Reader takes bytes. Behind its first error none are left.
type Reader struct {
	left []byte
	err  api.Errno
}

// NewReader reads these.
func NewReader(s string) *Reader { return &Reader{left: []byte(s)} }

// Number takes a number of so many bytes.
func (r *Reader) Number(size int) uint64 { return r.number(plain(), size) }

// Signed takes a number with its sign.
func (r *Reader) Signed(size int) int64 { return int64(r.number(signed(), size)) }

// Bytes takes n bytes.
func (r *Reader) Bytes(n int) string { return string(r.take(n)) }

// Text takes a text.
func (r *Reader) Text() string { return r.Bytes(int(r.Number(1))) }

// Rest takes all that is left.
func (r *Reader) Rest() string { return r.Bytes(len(r.left)) }

// Left tells how many bytes are left.
func (r *Reader) Left() int { return len(r.left) }

// Done tells the first error; or ErrRange, if bytes are left.
func (r *Reader) Done() api.Errno {
	if len(r.left) > 0 {
		return api.ErrRange
	}
	return r.err
}

// number takes a number of either kind, its highest byte first.
func (r *Reader) number(k kind, size int) uint64 {
	if !sized(size) {
		r.fail(api.ErrRange)
		return 0
	}
	x := uint64(0)
	for _, b := range r.take(size) {
		x = x<<8 | uint64(b)
	}
	return k.whole(x, spare(size))
}

// take takes n bytes, or breaks off and takes none.
func (r *Reader) take(n int) []byte {
	switch {
	case n < 0:
		r.fail(api.ErrRange)
	case n > len(r.left):
		r.fail(api.ErrShort)
	default:
		taken := r.left[:n]
		r.left = r.left[n:]
		return taken
	}
	return nil
}

// fail breaks off, and keeps the error if it is the first one.
func (r *Reader) fail(e api.Errno) {
	if r.err == api.OK {
		r.err = e
	}
	r.left = nil
}
