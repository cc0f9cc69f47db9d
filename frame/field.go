package frame

import (
	"strings"

	"joust/api"
)

const (
	fireFlag  = 1
	boostFlag = 2
	zeroLen   = api.HelloLen - headLen - api.NonceLen // a hello is not shorter than the cookie that answers it
)

// field of a datagram: how it is taken out of bytes, and how it is laid.
type field struct {
	take func(d *api.Datagram, in *input)
	lay  func(d *api.Datagram, out *output)
}

// fieldsOf tells which fields a kind has, in their order; what is no kind has none.
func fieldsOf(kind int) []field {
	switch kind {
	case api.KdHello:
		return []field{nonce(), zeros()}
	case api.KdCookie:
		return []field{nonce(), epoch(), cookie()}
	case api.KdConnect:
		return []field{nonce(), epoch(), cookie(), name(), tag()}
	case api.KdWelcome:
		return []field{nonce(), session(), player(), salt(), tag()}
	case api.KdCommand:
		return []field{session(), seq(), throttle(), turn(), flags(), tag()}
	case api.KdSnapshot:
		return []field{session(), seq(), view(), tag()}
	case api.KdBye:
		return []field{session(), seq(), tag()}
	}
	return nil
}

func nonce() field {
	return fixed(api.NonceLen, func(d *api.Datagram) *string { return &d.Nonce })
}

func salt() field {
	return fixed(api.NonceLen, func(d *api.Datagram) *string { return &d.Salt })
}

func cookie() field {
	return fixed(api.TagLen, func(d *api.Datagram) *string { return &d.Cookie })
}

func tag() field {
	return fixed(api.TagLen, func(d *api.Datagram) *string { return &d.Tag })
}

func epoch() field { return long(func(d *api.Datagram) *uint64 { return &d.Epoch }) }

func session() field { return long(func(d *api.Datagram) *uint64 { return &d.Session }) }

func seq() field { return long(func(d *api.Datagram) *uint64 { return &d.Seq }) }

func throttle() field { return lever(func(d *api.Datagram) *int { return &d.Command.Throttle }) }

func turn() field { return lever(func(d *api.Datagram) *int { return &d.Command.Turn }) }

// fixed is a text of just so many bytes.
func fixed(size int, place func(d *api.Datagram) *string) field {
	return field{
		take: func(d *api.Datagram, in *input) { *place(d) = in.bytes(size) },
		lay: func(d *api.Datagram, out *output) {
			out.allow(len(*place(d)) == size)
			out.Bytes(*place(d))
		},
	}
}

// long is a number of eight bytes.
func long(place func(d *api.Datagram) *uint64) field {
	return field{
		take: func(d *api.Datagram, in *input) { *place(d) = in.number(8) },
		lay:  func(d *api.Datagram, out *output) { out.Number(*place(d), 8) },
	}
}

// lever is a number of one byte with its sign.
func lever(place func(d *api.Datagram) *int) field {
	return field{
		take: func(d *api.Datagram, in *input) { *place(d) = int(in.signed(1)) },
		lay:  func(d *api.Datagram, out *output) { out.Signed(int64(*place(d)), 1) },
	}
}

// player is a number of one byte. One below 0 is beyond all that a byte holds, taken without its sign.
func player() field {
	return field{
		take: func(d *api.Datagram, in *input) { d.Player = int(in.number(1)) },
		lay:  func(d *api.Datagram, out *output) { out.Number(uint64(d.Player), 1) },
	}
}

// flags tell Fire and Boost in one byte, which has no other bits.
func flags() field {
	return field{
		take: func(d *api.Datagram, in *input) {
			x := in.number(1)
			in.allow(x <= fireFlag|boostFlag)
			d.Command.Fire = x&fireFlag != 0
			d.Command.Boost = x&boostFlag != 0
		},
		lay: func(d *api.Datagram, out *output) {
			x := uint64(0)
			if d.Command.Fire {
				x |= fireFlag
			}
			if d.Command.Boost {
				x |= boostFlag
			}
			out.Number(x, 1)
		},
	}
}

// name is a text with its length ahead.
func name() field {
	return field{
		take: func(d *api.Datagram, in *input) { d.Name = in.text() },
		lay:  func(d *api.Datagram, out *output) { out.Text(d.Name) },
	}
}

// view is all that stands ahead of the tag; nothing else tells its length.
func view() field {
	return field{
		take: func(d *api.Datagram, in *input) { d.Data = in.bytes(in.left() - api.TagLen) },
		lay:  func(d *api.Datagram, out *output) { out.Bytes(d.Data) },
	}
}

// zeros fill up a hello. They are nothing of the datagram's own.
func zeros() field {
	fill := strings.Repeat("\x00", zeroLen)
	return field{
		take: func(d *api.Datagram, in *input) { in.allow(in.bytes(zeroLen) == fill) },
		lay:  func(d *api.Datagram, out *output) { out.Bytes(fill) },
	}
}
