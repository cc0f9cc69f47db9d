package frame_test

import (
	"fmt"
	"testing"

	"joust/api"
	"joust/frame"
)

const (
	one = "\x00\x00\x00\x00\x00\x00\x00\x01"
	two = "\x00\x00\x00\x00\x00\x00\x00\x02"
)

// put is a text with other bytes from a place on.
func put(s string, at int, other string) string { return s[:at] + other + s[at+len(other):] }

func hello() string { return "J01\x01" + n16 + rep("\x00", 76) }

func command() string { return "J01\x05" + one + two + "\xff\x05\x01" + t32 }

func connect() string { return "J01\x03" + n16 + one + t32 + "\x03ann" + t32 }

// sample is a datagram of each kind that Decode takes.
func sample() []string {
	return []string{
		hello(),
		"J01\x02" + n16 + one + t32,
		connect(),
		"J01\x04" + n16 + two + "\xff" + rep("s", 16) + t32,
		command(),
		"J01\x06" + one + two + "view" + t32,
		"J01\x07" + one + two + t32,
	}
}

// wantRefused wants an error, and nothing beside it.
func wantRefused(t *testing.T, what, s string, want api.Errno) {
	t.Helper()
	if d, e := frame.Decode(s); e != want || d != (api.Datagram{}) {
		t.Errorf("%s: Decode = %+v, %v, want %v", what, d, e, want)
	}
	wantDecode(t, s)
}

// P7.1: what the chapter's examples say of Decode, and each kind's fields written out.
func TestDecodeExamples(t *testing.T) {
	wantRefused(t, "example 2, flags 4", put(command(), 22, "\x04"), api.ErrField)
	wantRefused(t, "example 2, a byte more", command()+"x", api.ErrLength)
	wantRefused(t, "example 3, the 61st byte 4", put(connect(), 60, "\x04"), api.ErrLength)
	want := []api.Datagram{
		{Kind: 1, Nonce: n16},
		{Kind: 2, Nonce: n16, Epoch: 1, Cookie: t32},
		{Kind: 3, Nonce: n16, Epoch: 1, Cookie: t32, Name: "ann", Tag: t32},
		{Kind: 4, Nonce: n16, Session: 2, Player: 255, Salt: rep("s", 16), Tag: t32},
		{Kind: 5, Session: 1, Seq: 2, Command: api.Command{Throttle: -1, Turn: 5, Fire: true}, Tag: t32},
		{Kind: 6, Session: 1, Seq: 2, Data: "view", Tag: t32},
		{Kind: 7, Session: 1, Seq: 2, Tag: t32},
	}
	for i, s := range sample() {
		if d, e := frame.Decode(s); d != want[i] || e != api.OK {
			t.Errorf("Decode(%q) = %+v, %v, want %+v", s, d, e, want[i])
		}
		wantDecode(t, s)
	}
}

// P7.1: the chapter's hard places.
func TestDecodeHardPlaces(t *testing.T) {
	for kind := range 256 {
		wantRefused(t, "1201 bytes", "J01"+string([]byte{byte(kind)})+rep("\x00", 1197), api.ErrLength)
	}
	wantRefused(t, "1201 other bytes", rep("x", 1201), api.ErrLength)
	wantRefused(t, "very many bytes", "J01\x06"+rep("x", 1<<20), api.ErrLength)
	full := "J01\x06" + one + two + rep("d", 1148) + t32
	want := api.Datagram{Kind: 6, Session: 1, Seq: 2, Data: rep("d", 1148), Tag: t32}
	if d, e := frame.Decode(full); d != want || e != api.OK {
		t.Errorf("a snapshot of %d bytes: %v", len(full), e)
	}
	for _, x := range []struct {
		s string
		e api.Errno
	}{
		{"", api.ErrMagic}, {"J", api.ErrMagic}, {"J0", api.ErrMagic}, {"J01", api.ErrKind},
		{"J01\x00", api.ErrKind}, {"J01\x08", api.ErrKind}, {"J011", api.ErrKind}, {"J01\x05", api.ErrLength},
	} {
		wantRefused(t, fmt.Sprintf("%q", x.s), x.s, x.e)
	}
	unnamed := "J01\x03" + n16 + one + t32 + "\x00" + t32
	want = api.Datagram{Kind: 3, Nonce: n16, Epoch: 1, Cookie: t32, Tag: t32}
	if d, e := frame.Decode(unnamed); d != want || e != api.OK || len(unnamed) != 93 {
		t.Errorf("a connect of %d bytes: %+v, %v", len(unnamed), d, e)
	}
	empty := "J01\x06" + one + two + t32
	want = api.Datagram{Kind: 6, Session: 1, Seq: 2, Tag: t32}
	if d, e := frame.Decode(empty); d != want || e != api.OK || len(empty) != 52 {
		t.Errorf("a snapshot of %d bytes: %+v, %v", len(empty), d, e)
	}
	wantRefused(t, "a hello that is not zero and too long", hello()+"\x01", api.ErrLength)
	wantRefused(t, "a hello that is not zero and too short", hello()[:94]+"\x01", api.ErrLength)
}

// P7.1: every kind with every number of bytes up to one above the most: zeros, and bytes of any kind.
func TestDecodeEveryLength(t *testing.T) {
	d := dice(7)
	for _, kind := range []byte{0, 1, 2, 3, 4, 5, 6, 7, 8, '1', 128, 255} {
		for n := range 1198 {
			wantDecode(t, "J01"+string([]byte{kind})+rep("\x00", n))
			wantDecode(t, "J01"+string([]byte{kind})+d.bytes(n))
		}
	}
}

// P7.1: a datagram of every kind that is taken, with a byte less and a byte more, and every shorter one.
func TestDecodeAtItsLength(t *testing.T) {
	for _, s := range sample() {
		kind := int(s[3])
		for n := range len(s) {
			wantDecode(t, s[:n])
			if d, e := frame.Decode(s[:n]); (e == api.OK) != (kind == 6 && n >= 52) || e != api.OK && d != (api.Datagram{}) {
				t.Errorf("kind %d: the first %d of %d bytes: %+v, %v", kind, n, len(s), d, e)
			}
		}
		for _, more := range []string{"\x00", "\xff", rep("\x00", 100)} {
			wantDecode(t, s+more)
			if _, e := frame.Decode(s + more); kind != 6 && e != api.ErrLength {
				t.Errorf("kind %d with %d bytes more: %v", kind, len(more), e)
			}
		}
	}
}

// P7.1: connects with every length byte: just so many bytes of name are taken, none less, none more.
func TestDecodeConnectOfEveryName(t *testing.T) {
	d := dice(73)
	for n := range 256 {
		for _, have := range []int{0, 1, n - 1, n, n + 1, n + 32, 255, 256, 1107, 1108} {
			if have < 0 {
				continue
			}
			name := d.bytes(have)
			s := "J01\x03" + n16 + one + t32 + string([]byte{byte(n)}) + name + t32
			wantDecode(t, s)
			x, e := frame.Decode(s)
			if have == n && (e != api.OK || x.Name != name) {
				t.Fatalf("a name of %d bytes: %q, %v", n, x.Name, e)
			}
			if have != n && e != api.ErrLength {
				t.Fatalf("a name of %d bytes that says %d: %v", have, n, e)
			}
		}
		for cut := range 93 {
			s := "J01\x03" + n16 + one + t32 + string([]byte{byte(n)}) + t32
			wantDecode(t, s[:cut])
		}
	}
}

// P7.1: every value of every byte of every kind's sample: in the head, in fields that may be anything, in those that may not.
func TestDecodeEveryByte(t *testing.T) {
	for _, s := range sample() {
		for at := range s {
			for b := range 256 {
				wantDecode(t, put(s, at, string([]byte{byte(b)})))
			}
		}
	}
}

// P7.1: a hello's bytes behind its nonce are zero, each of them; a command's flags are at most 3.
func TestDecodeRefusesFields(t *testing.T) {
	for at := range 96 {
		d, e := frame.Decode(put(hello(), at, "\x80"))
		switch {
		case at < 4 && e == api.OK, at >= 4 && at < 20 && e != api.OK, at >= 20 && e != api.ErrField, e != api.OK && d != (api.Datagram{}):
			t.Errorf("a hello with the byte %d not zero: %+v, %v", at, d, e)
		}
	}
	for flags := range 256 {
		d, e := frame.Decode(put(command(), 22, string([]byte{byte(flags)})))
		if flags > 3 {
			if e != api.ErrField || d != (api.Datagram{}) {
				t.Errorf("flags %d: %+v, %v", flags, d, e)
			}
			continue
		}
		if e != api.OK || d.Command.Fire != (flags == 1 || flags == 3) || d.Command.Boost != (flags >= 2) {
			t.Errorf("flags %d: %+v, %v", flags, d.Command, e)
		}
	}
}

// P7.1: where several errors apply, the first of the chapter's order.
func TestDecodeOrderOfErrors(t *testing.T) {
	odd := put(hello(), 50, "x")
	for _, x := range []struct {
		what, s string
		e       api.Errno
	}{
		{"too long, no magic", "J02\x01" + rep("x", 1197), api.ErrLength},
		{"too long, no kind", "J01\x09" + rep("x", 1197), api.ErrLength},
		{"too long, a field", odd + rep("x", 1105), api.ErrLength},
		{"no magic, no kind", "J02\x09" + odd[4:], api.ErrMagic},
		{"no magic, no fourth byte", "j01", api.ErrMagic},
		{"no magic, wrong length", "J00\x05", api.ErrMagic},
		{"no magic, a field", "K" + odd[1:], api.ErrMagic},
		{"no kind, wrong length", "J01\x09", api.ErrKind},
		{"no kind, a field", put(odd, 3, "\x11"), api.ErrKind},
		{"wrong length, a field", odd[:95], api.ErrLength},
		{"wrong length, flags", put(command(), 22, "\xff") + "x", api.ErrLength},
		{"wrong length, flags, shorter", put(command(), 22, "\xff")[:54], api.ErrLength},
		{"a field", odd, api.ErrField},
	} {
		wantRefused(t, x.what, x.s, x.e)
	}
}

// P7.1, P7.5: bytes of any kind, and datagrams of which some bytes were changed, cut off, put in.
func TestDecodeAnyBytes(t *testing.T) {
	d := dice(71)
	for n := range 3000 {
		wantDecode(t, d.bytes(n%130))
		wantDecode(t, "J01"+d.bytes(n%130))
		s, _ := plainEncode(fitting(&d, some(&d, kinds)))
		for range 5 {
			wantDecode(t, s)
			switch at := d.below(len(s) + 1); d.below(4) {
			case 0:
				s = s[:at]
			case 1:
				s = s[:at] + d.bytes(d.below(3)) + s[at:]
			case 2:
				s = put(s, at, d.bytes(min(len(s)-at, d.below(3))))
			default:
				s += d.bytes(d.below(40))
			}
		}
	}
}
