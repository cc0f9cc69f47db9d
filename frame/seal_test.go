package frame_test

import (
	"testing"
	"unsafe"

	"joust/api"
	"joust/frame"
	"joust/mac"
)

// keys are of any length: empty, a session's, above what a tag pads.
func keys() []string {
	return []string{"", "k", "l", rep("k", 32), rep("k", 63), rep("k", 64), rep("k", 65), "\x00\xff", rep("\xff", 300)}
}

// wantSealed holds Sealed against the plain one.
func wantSealed(t *testing.T, s, key string) {
	t.Helper()
	body := plainBody(s)
	want := body != "" && s[len(body):] == mac.Tag(key, body)
	if got := frame.Sealed(s, key); got != want {
		t.Fatalf("Sealed of %d bytes %q under %q is %v", len(s), head(s), key, got)
	}
}

// P7.1: the chapter's fourth example.
func TestSealExample(t *testing.T) {
	if b := frame.Body(command()); b != command()[:23] {
		t.Errorf("Body = %q", b)
	}
	if b := frame.Body(hello()); b != "" {
		t.Errorf("Body of a hello = %q", b)
	}
	d := api.Datagram{Kind: 5, Session: 1, Seq: 2, Command: api.Command{Throttle: -1, Turn: 5, Fire: true}, Tag: t32}
	s, e := frame.Seal(d, "k")
	if want := command()[:23] + mac.Tag("k", command()[:23]); s != want || e != api.OK {
		t.Errorf("Seal = %q, %v, want %q", s, e, want)
	}
	if !frame.Sealed(s, "k") || frame.Sealed(s, "l") {
		t.Error("Sealed under k, l")
	}
}

// P7.1: Body asks for J01, a kind with a tag, and 36 bytes, and for nothing else.
func TestBody(t *testing.T) {
	d := dice(74)
	for kind := range 256 {
		for _, n := range []int{0, 1, 30, 31, 32, 33, 48, 1196, 1197, 5000} {
			s := "J01" + string([]byte{byte(kind)}) + d.bytes(n)
			want := ""
			if kind >= 3 && kind <= 7 && n >= 32 {
				want = s[:len(s)-32]
			}
			if b := frame.Body(s); b != want {
				t.Fatalf("Body of kind %d and %d bytes behind the head has %d", kind, n, len(b))
			}
			sealed := s + mac.Tag("k", s)
			if frame.Sealed(sealed, "k") != (kind >= 3 && kind <= 7) {
				t.Fatalf("Sealed of kind %d and %d bytes behind the head", kind, n)
			}
			wantSealed(t, s, "k")
		}
	}
	for _, s := range []string{"", "J", "J01", "J01\x05", "J01\x07" + rep("x", 31), "j01\x07" + rep("x", 32), "J02\x07" + rep("x", 32), "K01\x07" + rep("x", 32), rep("x", 36)} {
		if b := frame.Body(s); b != "" {
			t.Errorf("Body(%q) = %q", s, b)
		}
		wantSealed(t, s, "k")
		wantSealed(t, s+mac.Tag("k", s), "k")
	}
	if b := frame.Body("J01\x07" + t32); b != "J01\x07" {
		t.Errorf("Body of 36 bytes = %q", b)
	}
	if long := "J01\x03" + rep("x", 100000); frame.Body(long) != long[:len(long)-32] {
		t.Error("Body of many bytes")
	}
}

// P7.1: bytes that Decode refuses may be sealed.
func TestSealedOfWhatDecodeRefuses(t *testing.T) {
	for _, body := range []string{put(command(), 22, "\x04")[:23], "J01\x05", command()[:22], command()[:23] + "x", "J01\x06" + rep("x", 1165), connect()[:60], "J01\x04"} {
		s := body + mac.Tag("k", body)
		if _, e := frame.Decode(s); e == api.OK {
			t.Errorf("%q is taken", head(s))
		}
		if !frame.Sealed(s, "k") || frame.Sealed(s, "l") || frame.Body(s) != body {
			t.Errorf("%q is not sealed", head(s))
		}
	}
	if _, e := frame.Decode(hello()); e != api.OK || frame.Sealed(hello()[:64]+mac.Tag("k", hello()[:64]), "k") {
		t.Error("a hello is sealed")
	}
}

// P7.1: what Seal refuses: a kind without a tag first, then a field, then too many bytes; the datagram's own tag is not looked at.
func TestSealRefuses(t *testing.T) {
	d := dice(76)
	for _, x := range []struct {
		what string
		d    api.Datagram
		e    api.Errno
	}{
		{"hello", api.Datagram{Kind: 1, Nonce: n16}, api.ErrKind},
		{"cookie", api.Datagram{Kind: 2, Nonce: n16, Cookie: t32}, api.ErrKind},
		{"odd hello", api.Datagram{Kind: 1}, api.ErrKind},
		{"odd cookie", api.Datagram{Kind: 2}, api.ErrKind},
		{"odd welcome", api.Datagram{Kind: 4, Nonce: n16}, api.ErrField},
		{"odd command", api.Datagram{Kind: 5, Command: api.Command{Turn: 128}}, api.ErrField},
		{"long snapshot", api.Datagram{Kind: 6, Data: rep("d", 1149)}, api.ErrLength},
		{"long snapshot with an odd tag", api.Datagram{Kind: 6, Data: rep("d", 1149), Tag: "t"}, api.ErrLength},
	} {
		if s, e := frame.Seal(x.d, "k"); s != "" || e != x.e {
			t.Errorf("%s: Seal = %q, %v, want %v", x.what, s, e, x.e)
		}
		wantEncode(t, x.d)
	}
	for _, kind := range noKinds {
		if s, e := frame.Seal(fitting(&d, kind), "k"); s != "" || e != api.ErrKind {
			t.Errorf("kind %d: Seal = %q, %v", kind, s, e)
		}
	}
	for n := range 70 {
		for kind := 3; kind <= 7; kind++ {
			x := fitting(&d, kind)
			want, _ := frame.Seal(x, "k")
			x.Tag = d.bytes(n)
			if s, e := frame.Seal(x, "k"); s != want || e != api.OK {
				t.Fatalf("kind %d with a tag of %d bytes: %v", kind, n, e)
			}
		}
	}
}

// P7.3: what Seal answers is taken and sealed under that key, and is its body and its tag.
func TestSealedThereAndBack(t *testing.T) {
	d := dice(733)
	for range 40 {
		for kind := 3; kind <= 7; kind++ {
			for _, key := range append(keys(), d.bytes(32)) {
				x := fitting(&d, kind)
				s, e := frame.Seal(x, key)
				if e != api.OK || !frame.Sealed(s, key) {
					t.Fatalf("kind %d under %q: %v, not sealed", kind, key, e)
				}
				got, e := frame.Decode(s)
				if e != api.OK || frame.Body(s)+got.Tag != s || got.Tag != mac.Tag(key, frame.Body(s)) {
					t.Fatalf("kind %d under %q: taken as %+v, %v", kind, key, got, e)
				}
				x.Tag = got.Tag
				if got != stripped(x) {
					t.Fatalf("%+v is sealed as %+v", x, got)
				}
				if again, e := frame.Encode(got); again != s || e != api.OK {
					t.Fatalf("kind %d under %q is written back otherwise: %v", kind, key, e)
				}
			}
		}
	}
}

// P7.4: with other last bytes, each bit turned, and with other tags, it is not sealed; nor under other keys, nor with another body.
func TestByteTurned(t *testing.T) {
	d := dice(744)
	for kind := 3; kind <= 7; kind++ {
		for _, key := range []string{"", "k", d.bytes(32)} {
			s, _ := frame.Seal(fitting(&d, kind), key)
			body := frame.Body(s)
			for at := range s {
				bit := string([]byte{s[at] ^ 1<<(at%8)})
				if frame.Sealed(put(s, at, bit), key) {
					t.Fatalf("kind %d: sealed with byte %d of %d turned", kind, at, len(s))
				}
			}
			for bit := range 256 {
				at := len(body) + bit/8
				if frame.Sealed(put(s, at, string([]byte{s[at] ^ 1<<(bit%8)})), key) {
					t.Fatalf("kind %d: sealed with bit %d of the tag turned", kind, bit)
				}
			}
			for _, tag := range []string{rep("\x00", 32), rep("\xff", 32), t32, d.bytes(32), s[len(body)+1:] + s[len(body):len(body)+1], mac.Tag("other", body), mac.Tag(key, s), mac.Tag(key, body+"x"), mac.Tag(key, "")} {
				if frame.Sealed(body+tag, key) {
					t.Fatalf("kind %d: sealed with the tag %q", kind, tag)
				}
			}
			for _, other := range append(keys(), key+"x", "x"+key) {
				if other != key && frame.Sealed(s, other) {
					t.Fatalf("kind %d: sealed under %q and %q", kind, key, other)
				}
			}
		}
	}
}

// P7.5: of what Decode takes, Body is "" just if the kind is 1 or 2.
func TestBodyOfWhatIsTaken(t *testing.T) {
	d := dice(755)
	for range 2000 {
		for _, kind := range kinds {
			s, _ := frame.Encode(fitting(&d, kind))
			if _, e := frame.Decode(s); e != api.OK {
				t.Fatalf("kind %d: %v", kind, e)
			}
			if b := frame.Body(s); (b == "") != (kind <= 2) {
				t.Fatalf("kind %d: Body has %d of %d bytes", kind, len(b), len(s))
			}
		}
	}
}

// share tells whether two texts have memory in common.
func share(a, b string) bool {
	p, q := uintptr(unsafe.Pointer(unsafe.StringData(a))), uintptr(unsafe.Pointer(unsafe.StringData(b)))
	return a != "" && b != "" && p < q+uintptr(len(b)) && q < p+uintptr(len(a))
}

// R11: no answer shares memory with what was handed in, nor with another answer.
func TestAnswersAreTheirOwn(t *testing.T) {
	d := dice(711)
	for _, kind := range kinds {
		x := fitting(&d, kind)
		x.Name, x.Data = d.bytes(20), d.bytes(200)
		s, _ := plainEncode(x)
		texts := []string{s, x.Nonce, x.Cookie, x.Name, x.Salt, x.Data, x.Tag}
		for range 2 {
			y, _ := frame.Decode(s)
			laid, _ := frame.Encode(x)
			sealed, _ := frame.Seal(x, x.Data)
			texts = append(texts, y.Nonce, y.Cookie, y.Name, y.Salt, y.Data, y.Tag, laid, sealed, frame.Body(s))
		}
		for i, a := range texts {
			for k, b := range texts[:i] {
				if share(a, b) {
					t.Errorf("kind %d: texts %d and %d share memory", kind, k, i)
				}
			}
		}
	}
}
