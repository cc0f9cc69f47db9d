package snap_test

import (
	"math"
	"testing"

	"joust/api"
	"joust/frame"
	"joust/snap"
)

// keys are of any length: empty, a session's, above what a tag pads. None has the tags of another.
func keys() []string {
	return []string{"", "k", "l", rep("k", 31), rep("k", 32), rep("l", 32), rep("k", 63), rep("k", 64), rep("k", 65), "\x00\xff", rep("\xff", 300)}
}

var longs = []uint64{0, 1, 2, 255, 256, 1<<32 - 1, 1 << 32, 0x0102030405060708, 1<<63 - 1, 1 << 63, math.MaxUint64 - 1, math.MaxUint64}

// P22.1: what Write refuses comes ahead of what Seal refuses.
func TestMakeOrder(t *testing.T) {
	d := dice(21)
	for range 300 {
		v := d.view(d.below(256), 41+d.below(215))
		if s, e := snap.Make(1, 2, v, "k"); e != api.ErrLength || s != "" {
			t.Fatalf("too long: %d bytes, %v", len(s), e)
		}
		*bytePlaces(&v)[d.below(1+2*len(v.Seen))] = []int{-1, 256, math.MinInt, math.MaxInt}[d.below(4)]
		wantRefused(t, "too long, and a byte", v)
	}
	v := d.view(255, 255)
	v.Own.Name += "n"
	wantRefused(t, "too long a name", v)
	wantRefused(t, "too many", d.view(255, 256))
}

// P22.1: every view that is short enough is made: 1200 bytes are, 1201 are not.
func TestMakeLengths(t *testing.T) {
	d := dice(22)
	made := 0
	for seen := range 60 {
		for name := range 256 {
			v, length := d.view(name, seen), 52+107+name+26*seen
			if length <= 1200 {
				if s := wantMade(t, 1, 2, v, "k"); len(s) != length {
					t.Fatalf("%d bytes, want %d", len(s), length)
				}
				made = max(made, length)
			} else if s, e := snap.Make(1, 2, v, "k"); e != api.ErrLength || s != "" {
				t.Fatalf("%d bytes, %v, want %d", len(s), e, length)
			}
		}
	}
	if made != 1200 {
		t.Errorf("the longest one has %d bytes", made)
	}
}

// P22.5: names of at most 24 bytes, at most 32 that are seen.
func TestItFits(t *testing.T) {
	d := dice(23)
	longest := 0
	for seen := range 33 {
		for name := range 25 {
			s, e := snap.Make(d.word(), d.word(), d.view(name, seen), d.bytes(32))
			if e != api.OK || len(s) > 1015 || len(s) != 159+name+26*seen {
				t.Fatalf("a name of %d bytes, %d are seen: %d bytes, %v", name, seen, len(s), e)
			}
			longest = max(longest, len(s))
		}
	}
	if longest != 1015 {
		t.Errorf("the longest has %d bytes", longest)
	}
}

// P22.1: what frame.Decode refuses, ahead of all else, also if the tag is right, or the kind another.
func TestOpenRefusesDatagrams(t *testing.T) {
	d := dice(24)
	for _, n := range []int{1149, 1150, 5000, 1 << 20} {
		wantUnopened(t, "too long, sealed", plainSnapshot(1, 2, zeros(n), "k"), "k", api.ErrLength)
		wantUnopened(t, "too long, other bytes", rep("x", 52+n), "k", api.ErrLength)
	}
	s := wantMade(t, 1, 2, example(), "k")
	sealed := func(body string) string { return body + plainTag("k", body) }
	for _, magic := range []string{"J00", "j01", "X01", "J11", "\x00\x00\x00"} {
		wantUnopened(t, "another head", sealed(magic+s[3:len(s)-32]), "k", api.ErrMagic)
	}
	for kind := range 256 {
		body := "J01" + string([]byte{byte(kind)}) + s[4:len(s)-32]
		switch {
		case kind < 1 || kind > 7:
			wantUnopened(t, "no kind", sealed(body), "k", api.ErrKind)
		case kind != 6:
			wantUnopened(t, "another kind's length", sealed(body), "k", api.ErrLength)
		}
		wantOpen(t, "J01"+string([]byte{byte(kind)}), "k")
	}
	for n := range 52 {
		want := api.ErrLength
		if n < 3 {
			want = api.ErrMagic
		} else if n < 4 {
			want = api.ErrKind
		}
		wantUnopened(t, "cut", s[:n], "k", want)
		if n >= 36 {
			wantUnopened(t, "cut and sealed", sealed(s[:n-32]), "k", api.ErrLength)
		}
	}
	flags := "J01\x05" + zeros(18) + "\x04"
	wantUnopened(t, "flags", sealed(flags), "k", api.ErrField)
	wantUnopened(t, "flags, another key", sealed(flags), "l", api.ErrField)
	wantUnopened(t, "a hello", "J01\x01"+zeros(91)+"\x01", "k", api.ErrField)
	for n := range 300 {
		wantOpen(t, d.bytes(n), "k")
		wantOpen(t, "J01"+d.bytes(n), "k")
		wantOpen(t, "J01\x06"+d.bytes(n), "k")
	}
}

// P22.1: datagrams of the other kinds, sealed under the key, under another, or not at all: ErrKind, ahead of ErrTag.
func TestOpenRefusesKinds(t *testing.T) {
	n16, t32 := rep("n", 16), rep("t", 32)
	for _, x := range []api.Datagram{
		{Kind: 1, Nonce: n16}, {Kind: 2, Nonce: n16, Epoch: 1, Cookie: t32}, {Kind: 3, Nonce: n16, Cookie: t32, Name: "ann", Tag: t32},
		{Kind: 4, Nonce: n16, Session: 1, Player: 2, Salt: n16, Tag: t32}, {Kind: 5, Session: 1, Seq: 2, Command: api.Command{Throttle: 100, Fire: true}, Tag: t32}, {Kind: 7, Session: 1, Seq: 2, Tag: t32},
	} {
		data, e := frame.Encode(x)
		if e != api.OK {
			t.Fatal(e)
		}
		wantUnopened(t, "not sealed", data, "k", api.ErrKind)
		if x.Kind < api.KdConnect {
			continue
		}
		data, e = frame.Seal(x, "k")
		if e != api.OK || !frame.Sealed(data, "k") {
			t.Fatal(e)
		}
		wantUnopened(t, "sealed", data, "k", api.ErrKind)
		wantUnopened(t, "another key", data, "l", api.ErrKind)
	}
}

// P22.1: a tag that is another comes ahead of data that are no view.
func TestOpenRefusesTags(t *testing.T) {
	d := dice(25)
	for range 500 {
		data := d.bytes(d.below(200))
		if d.one(2) {
			data = exampleBytes()
		}
		s := plainSnapshot(d.word(), d.word(), data, "k")
		wantUnopened(t, "another key", s, "l", api.ErrTag)
		wantUnopened(t, "another tag", s[:len(s)-32]+d.bytes(32), "k", api.ErrTag)
		wantUnopened(t, "no tag", s[:len(s)-32]+zeros(32), "k", api.ErrTag)
		wantUnopened(t, "a byte between", s[:len(s)-32]+"x"+s[len(s)-32:], "k", api.ErrTag)
		wantUnopened(t, "a byte behind", s+"x", "k", api.ErrTag)
		wantOpen(t, s, "k")
	}
	wantUnopened(t, "52 bytes", "J01\x06"+zeros(48), "k", api.ErrTag)
}

// P22.1: sealed data of any bytes, views with a byte turned among them: what Read says of them.
func TestOpenReads(t *testing.T) {
	d := dice(26)
	answers := map[api.Errno]int{}
	for range 4000 {
		data, _ := plainWrite(d.view(d.below(10), d.below(5)))
		turned := []byte(data)
		turned[[]int{9, 106 + int(data[9]), d.below(len(data))}[d.below(3)]] ^= byte(d.below(8))
		s := plainSnapshot(d.word(), d.word(), string(turned), "k")
		e := wantOpen(t, s, "k")
		if _, want := snap.Read(string(turned)); e != want {
			t.Fatalf("Open: %v, Read: %v", e, want)
		}
		answers[e]++
	}
	for _, e := range []api.Errno{api.OK, api.ErrShort, api.ErrRange} {
		if answers[e] < 200 {
			t.Errorf("%v came only %d times", e, answers[e])
		}
	}
}

// P22.3: made and opened, with all keys, sessions and numbers; under another key it is ErrTag.
func TestMadeAndOpened(t *testing.T) {
	d := dice(27)
	for _, session := range longs {
		for _, seq := range longs {
			wantMade(t, session, seq, d.small(), "k")
			wantMade(t, session, seq, example(), d.bytes(32))
		}
	}
	for _, key := range keys() {
		for range 10 {
			s := wantMade(t, d.word(), d.word(), d.small(), key)
			for _, other := range keys() {
				if other != key {
					wantUnopened(t, "another key", s, other, api.ErrTag)
				}
			}
		}
	}
	for range 1000 {
		key := []byte(d.bytes(32))
		s := wantMade(t, d.word(), d.word(), d.small(), string(key))
		key[d.below(32)] ^= 1 << d.below(8)
		wantUnopened(t, "a bit of the key", s, string(key), api.ErrTag)
	}
	// Where the tags do not differ, the keys are one.
	s := wantMade(t, 3, 4, example(), "k")
	for _, key := range []string{"k\x00", "k" + zeros(63)} {
		if !open(s, key).is(opened{3, 4, example(), api.OK}) {
			t.Errorf("%q has other tags than k", key)
		}
	}
	wantUnopened(t, "a key that is summed", s, "k"+zeros(64), api.ErrTag)
}

// P22.3: the bytes hang on session, seq, view and key alone: with the same ones they are the same, whatever was made between; with another one of them they are others.
func TestBytesHangOn(t *testing.T) {
	d := dice(28)
	for range 300 {
		session, seq, v, key := d.word(), d.word(), d.small(), d.bytes(32)
		s := wantMade(t, session, seq, v, key)
		w := v
		w.Seen = append(make([]api.Seen, 0, 50), v.Seen...)
		w.Own.Name = string([]byte(v.Own.Name))
		others := []string{wantMade(t, session+1, seq, v, key), wantMade(t, session, seq+1, v, key), wantMade(t, seq, session, v, key), wantMade(t, session, seq, v, key+"x")}
		w.Own.Score++
		others = append(others, wantMade(t, session, seq, w, key))
		w.Own.Score--
		if again := wantMade(t, session, seq, w, key); again != s {
			t.Fatalf("%x, then %x", s, again)
		}
		for i, other := range others {
			if other == s {
				t.Fatalf("%d: the same bytes", i)
			}
		}
		if a, b := s, others[0]; a[:4] != b[:4] || a[12:len(a)-32] != b[12:len(b)-32] {
			t.Fatalf("another session: %x, %x", a, b)
		}
		if a, b := s, others[1]; a[:12] != b[:12] || a[20:len(a)-32] != b[20:len(b)-32] {
			t.Fatalf("another seq: %x, %x", a, b)
		}
	}
}

// P22.4: each byte of a snapshot turned, by each bit and wholly.
func TestEachByteTurned(t *testing.T) {
	d := dice(29)
	for _, v := range []api.View{{}, example(), d.view(24, 2), d.view(5, 12)} {
		s := wantMade(t, 3, 4, v, "key")
		for i := range len(s) {
			for _, by := range []byte{1, 2, 4, 8, 16, 32, 64, 128, 255} {
				turned := []byte(s)
				turned[i] ^= by
				got := open(string(turned), "key")
				if got.e == api.OK || i > 3 && got.e != api.ErrTag || i < 3 && got.e != api.ErrMagic {
					t.Fatalf("byte %d turned by %d: %v", i, by, got.e)
				}
				wantUnopened(t, "turned", string(turned), "key", got.e)
			}
		}
	}
}

// P22.4: a snapshot that was cut, lengthened or laid together out of two is not opened either.
func TestOtherwiseTurned(t *testing.T) {
	d := dice(30)
	a, b := wantMade(t, 3, 4, d.view(4, 3), "key"), wantMade(t, 3, 5, d.view(4, 3), "key")
	for n := range len(a) {
		if got := open(a[:n], "key"); got.e == api.OK || !got.is(opened{e: got.e}) {
			t.Fatalf("cut at %d: %+v", n, got)
		}
		wantOpen(t, a[n:], "key")
		if n > 19 { // ahead of it the heads are one: what two of them make is the second one
			wantUnopened(t, "two", a[:n]+b[n:], "key", api.ErrTag)
		}
		wantUnopened(t, "a byte put in", a[:4+n*len(a[4:])/len(a)]+"\x2a"+a[4+n*len(a[4:])/len(a):], "key", api.ErrTag)
	}
}
