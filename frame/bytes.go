package frame

import (
	"joust/api"
	"joust/pack"
)

// input is bytes out of which fields are taken. Where they end early it gives up by a panic, so that no field need ask. The reader is hidden in it: by its own calls it would go on.
type input struct {
	reader  *pack.Reader
	refused bool
}

func newInput(s string) *input { return &input{reader: pack.NewReader(s)} }

func (in *input) left() int { return in.reader.Left() }

func (in *input) bytes(n int) string {
	in.need(n)
	return in.reader.Bytes(n)
}

func (in *input) number(size int) uint64 {
	in.need(size)
	return in.reader.Number(size)
}

func (in *input) signed(size int) int64 {
	in.need(size)
	return in.reader.Signed(size)
}

func (in *input) text() string { return in.bytes(int(in.number(1))) }

// need gives up if fewer bytes are left. A view for which too few are left would have less than none.
func (in *input) need(n int) {
	if n < 0 || n > in.left() {
		panic(api.ErrLength)
	}
}

// allow refuses the datagram, if not ok: what stands in a field may not be.
func (in *input) allow(ok bool) { in.refused = in.refused || !ok }

// done tells whether the bytes were a datagram's. A wrong length comes ahead of a field that is refused, so both are asked here alone.
func (in *input) done() api.Errno {
	if in.left() > 0 {
		return api.ErrLength
	}
	if in.refused {
		return api.ErrField
	}
	return api.OK
}

// output is bytes into which fields are laid.
type output struct {
	*pack.Writer
	refused bool
}

func newOutput(head string) *output {
	out := &output{Writer: pack.NewWriter()}
	out.Bytes(head)
	return out
}

// allow refuses the datagram, if not ok: a field does not fit its place.
func (out *output) allow(ok bool) { out.refused = out.refused || !ok }

// done gives the bytes. That a field does not fit comes ahead of too many bytes, so both are asked here alone.
func (out *output) done() (string, api.Errno) {
	data, e := out.Done()
	if e != api.OK || out.refused {
		return "", api.ErrField
	}
	if len(data) > api.MaxData {
		return "", api.ErrLength
	}
	return data, api.OK
}
