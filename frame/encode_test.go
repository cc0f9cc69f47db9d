package frame_test

import (
	"math"
	"slices"
	"testing"

	"joust/api"
	"joust/frame"
)

// wantUnwritten wants an error, and nothing beside it.
func wantUnwritten(t *testing.T, what string, d api.Datagram, want api.Errno) {
	t.Helper()
	if s, e := frame.Encode(d); e != want || s != "" {
		t.Errorf("%s: Encode = %q, %v, want %v", what, s, e, want)
	}
	wantEncode(t, d)
}

// wantWritten wants just these bytes.
func wantWritten(t *testing.T, what string, d api.Datagram, want string) {
	t.Helper()
	if s, e := frame.Encode(d); e != api.OK || s != want {
		t.Errorf("%s: Encode = %q, %v, want %q", what, s, e, want)
	}
	wantEncode(t, d)
}

// P7.1: what the chapter's examples and hard places say of Encode, and each kind's bytes written out.
func TestEncodeExamples(t *testing.T) {
	wantWritten(t, "example 1", api.Datagram{Kind: 1, Nonce: n16}, hello())
	wantUnwritten(t, "example 1, a nonce of 15", api.Datagram{Kind: 1, Nonce: n16[1:]}, api.ErrField)
	wantUnwritten(t, "example 1, kind 8", api.Datagram{Kind: 8}, api.ErrKind)
	c := api.Datagram{Kind: 5, Session: 1, Seq: 2, Command: api.Command{Throttle: -1, Turn: 5, Fire: true}, Tag: t32}
	wantWritten(t, "example 2", c, command())
	c.Command.Throttle = 128
	wantUnwritten(t, "example 2, throttle 128", c, api.ErrField)
	wantWritten(t, "example 3", api.Datagram{Kind: 3, Nonce: n16, Epoch: 1, Cookie: t32, Name: "ann", Tag: t32}, connect())
	s := api.Datagram{Kind: 6, Data: rep("d", 1148), Tag: t32}
	wantWritten(t, "example 5", s, "J01\x06"+rep("\x00", 16)+rep("d", 1148)+t32)
	s.Data += "d"
	wantUnwritten(t, "example 5, a byte more", s, api.ErrLength)
	s.Tag = t32[1:]
	wantUnwritten(t, "example 5, a tag of 31", s, api.ErrField)
	wantWritten(t, "the empty Data", api.Datagram{Kind: 6, Session: 1, Seq: 2, Tag: t32}, "J01\x06"+one+two+t32)
	wantWritten(t, "a hello with other fields", api.Datagram{Kind: 1, Nonce: n16, Tag: "x", Name: rep("x", 300), Player: -1}, hello())
	wantWritten(t, "a cookie", api.Datagram{Kind: 2, Nonce: n16, Epoch: 2, Cookie: t32}, "J01\x02"+n16+two+t32)
	wantWritten(t, "a welcome", api.Datagram{Kind: 4, Nonce: n16, Session: 2, Player: 255, Salt: rep("s", 16), Tag: t32}, "J01\x04"+n16+two+"\xff"+rep("s", 16)+t32)
	wantWritten(t, "a bye", api.Datagram{Kind: 7, Session: math.MaxUint64, Seq: 2, Tag: t32}, "J01\x07"+rep("\xff", 8)+two+t32)
}

// P7.1: a kind that is none is refused, whatever the fields are.
func TestEncodeRefusesKinds(t *testing.T) {
	d := dice(79)
	for _, kind := range noKinds {
		wantUnwritten(t, "no kind", api.Datagram{Kind: kind}, api.ErrKind)
		for range 20 {
			wantUnwritten(t, "no kind, fields", fitting(&d, kind), api.ErrKind)
			x, _ := odd(&d, kind)
			wantUnwritten(t, "no kind, odd fields", x, api.ErrKind)
		}
	}
}

// P7.1: texts of every length about their places' own, in every kind.
func TestEncodeTexts(t *testing.T) {
	d := dice(72)
	for _, kind := range kinds {
		for n := range 80 {
			x := fitting(&d, kind)
			for _, part := range []string{"Nonce", "Salt", "Cookie", "Tag"} {
				y := x
				text := d.bytes(n)
				move(&y, api.Datagram{Nonce: text, Salt: text, Cookie: text, Tag: text}, part)
				fits := n == 32
				if part == "Nonce" || part == "Salt" {
					fits = n == 16
				}
				_, e := frame.Encode(y)
				if refuse := !fits && slices.Contains(parts(kind), part); refuse != (e == api.ErrField) || !refuse && e != api.OK {
					t.Fatalf("kind %d, %s of %d bytes: %v", kind, part, n, e)
				}
				wantEncode(t, y)
			}
		}
	}
	for n := range 300 {
		x := fitting(&d, 3)
		x.Name = d.bytes(n)
		if s, e := frame.Encode(x); n <= 255 && (e != api.OK || len(s) != 93+n || int(s[60]) != n) || n > 255 && (s != "" || e != api.ErrField) {
			t.Fatalf("a name of %d bytes: %d bytes, %v", n, len(s), e)
		}
		wantEncode(t, x)
	}
	for _, n := range []int{0, 1, 1147, 1148, 1149, 1150, 1200, 1201, 1 << 16, 1 << 20} {
		x := fitting(&d, 6)
		x.Data = rep("d", n)
		if s, e := frame.Encode(x); n <= 1148 && (e != api.OK || len(s) != 52+n) || n > 1148 && (s != "" || e != api.ErrLength) {
			t.Fatalf("Data of %d bytes: %d bytes, %v", n, len(s), e)
		}
		wantEncode(t, x)
	}
}

// P7.1: every number about the bounds of a byte, and numbers whose lowest byte alone would fit.
func TestEncodeNumbers(t *testing.T) {
	d := dice(75)
	far := []int{1 << 8, 1 << 16, 1 << 32, 1 << 40, 1 << 62, math.MaxInt, math.MinInt, math.MinInt + 5, -1 << 32, -1 << 16, -1 << 8}
	for x := -700; x <= 700; x++ {
		far = append(far, x)
	}
	for _, n := range far {
		w := fitting(&d, 4)
		w.Player = n
		if _, e := frame.Encode(w); (e == api.OK) != (n >= 0 && n <= 255) || e != api.OK && e != api.ErrField {
			t.Fatalf("player %d: %v", n, e)
		}
		wantEncode(t, w)
		for _, part := range []string{"Throttle", "Turn"} {
			c := fitting(&d, 5)
			move(&c, api.Datagram{Command: api.Command{Throttle: n, Turn: n}}, part)
			if _, e := frame.Encode(c); (e == api.OK) != (n >= -128 && n <= 127) || e != api.OK && e != api.ErrField {
				t.Fatalf("%s %d: %v", part, n, e)
			}
			wantEncode(t, c)
		}
	}
	for bit := range 64 {
		for _, kind := range kinds {
			x := fitting(&d, kind)
			x.Session, x.Seq, x.Epoch = 1<<bit, 1<<bit-1, ^uint64(1<<bit)
			wantEncode(t, x)
		}
	}
}

// P7.1: datagrams of any kind with several odd fields: the kind first, then a field, then too many bytes.
func TestEncodeAnyDatagram(t *testing.T) {
	d := dice(77)
	for range 20000 {
		kind := some(&d, kinds)
		x, part := odd(&d, kind)
		_, e := frame.Encode(x)
		want := api.ErrField
		switch {
		case !slices.Contains(parts(kind), part):
			want = api.OK
		case part == "Data":
			want = api.ErrLength
		}
		if e != want {
			t.Fatalf("kind %d with an odd %s: %v, want %v", kind, part, e, want)
		}
		wantEncode(t, x)
		for range d.below(3) {
			y, part := odd(&d, kind)
			move(&x, y, part)
		}
		if d.below(8) == 0 {
			x.Kind = some(&d, noKinds)
		}
		wantEncode(t, x)
	}
}

// P7.2: what Encode answers, Decode takes apart to the datagram again, the fields that its kind has not zero; so these are not looked at.
func TestThereAndBack(t *testing.T) {
	d := dice(78)
	for range 3000 {
		for _, kind := range kinds {
			x := fitting(&d, kind)
			other, _ := odd(&d, kind)
			for _, part := range []string{"Nonce", "Epoch", "Cookie", "Name", "Session", "Player", "Salt", "Seq", "Throttle", "Turn", "Fire", "Boost", "Data", "Tag"} {
				if !slices.Contains(parts(kind), part) {
					move(&x, other, part)
				}
			}
			s, e := frame.Encode(x)
			if e != api.OK {
				t.Fatalf("Encode(%+v): %v", x, e)
			}
			if alone, e := frame.Encode(stripped(x)); alone != s || e != api.OK {
				t.Fatalf("Encode(%+v) looks at more than the kind has", x)
			}
			if back, e := frame.Decode(s); back != stripped(x) || e != api.OK {
				t.Fatalf("%+v comes back as %+v, %v", stripped(x), back, e)
			}
		}
	}
}

// P7.2: what Decode takes apart, Encode writes to the same bytes.
func TestBackAndThere(t *testing.T) {
	d := dice(727)
	taken := map[int]int{}
	for n := range 40000 {
		kind := some(&d, kinds)
		length := []int{0, 96, 60, 93 + n%256, 77, 55, 52 + n%1149, 52}[kind]
		s := "J01" + string([]byte{byte(kind)}) + d.bytes(length-4)
		switch kind {
		case 1:
			s = s[:20] + rep("\x00", 76)
		case 3:
			s = put(s, 60, string([]byte{byte(n)}))
		case 5:
			s = put(s, 22, string([]byte{s[22] % 5}))
		}
		x, e := frame.Decode(s)
		if e == api.ErrField && kind == 5 && s[22] == 4 {
			continue
		}
		if e != api.OK {
			t.Fatalf("kind %d of %d bytes: %v", kind, len(s), e)
		}
		if x != stripped(x) {
			t.Fatalf("Decode answers fields that the kind has not: %+v", x)
		}
		taken[kind]++
		if again, e := frame.Encode(x); again != s || e != api.OK {
			t.Fatalf("%q is written back as %q, %v", s, again, e)
		}
	}
	for _, kind := range kinds {
		if taken[kind] < 1000 {
			t.Errorf("kind %d was taken %d times only", kind, taken[kind])
		}
	}
}
