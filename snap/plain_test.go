package snap_test

import (
	"crypto/hmac"
	"crypto/sha256"
	"encoding/binary"
	"math"
	"slices"
	"strings"
	"testing"

	"joust/api"
	"joust/frame"
	"joust/snap"
)

var rep = strings.Repeat

// dice give numbers that look like chance and are the same in every run.
type dice uint64

func (d *dice) word() uint64 {
	*d ^= *d << 13
	*d ^= *d >> 7
	*d ^= *d << 17
	return uint64(*d) * 0x2545f4914f6cdd1d
}

func (d *dice) below(n int) int { return int(d.word() >> 20 % uint64(n)) }

func (d *dice) one(n int) bool { return d.below(n) == 0 }

func (d *dice) bytes(n int) string {
	b := make([]byte, n)
	for i := range b {
		b[i] = byte(d.word() >> 20)
	}
	return string(b)
}

// edges are numbers about which a size or a sign could be mistaken.
var edges = []int{math.MinInt, math.MinInt + 1, -1 << 40, -1 << 32, -1<<31 - 1, -1 << 31, -257, -256, -255, -129, -128, -5, -1, 0, 1, 100, 127, 128, 255, 256, 257, 65536, 1<<31 - 1, 1 << 31, 1<<32 - 1, 1 << 32, 1<<32 + 1, 1 << 40, math.MaxInt - 1, math.MaxInt}

// number gives any int, small ones as often as great ones, and the edges.
func (d *dice) number() int {
	if d.one(4) {
		return edges[d.below(len(edges))]
	}
	return int(d.word()) >> d.below(64)
}

func (d *dice) place() api.Vec { return api.Vec{X: int64(d.number()), Y: int64(d.number())} }

// seen gives one that fits.
func (d *dice) seen() api.Seen {
	return api.Seen{Kind: d.below(256), Id: d.number(), At: d.place(), Heading: d.below(256)}
}

// view gives one that fits, with a name of so many bytes and so many that are seen.
func (d *dice) view(name, seen int) api.View {
	v := api.View{Tick: uint64(d.number()), Own: api.Car{
		Player: d.below(256), Name: d.bytes(name), At: d.place(), Speed: d.place(), Heading: d.number(), Health: d.number(),
		Energy: d.number(), Ammo: d.number(), Cool: d.number(), Wait: d.number(), Spawns: d.number(), Score: d.number(),
	}}
	for range seen {
		v.Seen = append(v.Seen, d.seen())
	}
	return v
}

// small gives a view that a snapshot has room for.
func (d *dice) small() api.View { return d.view(d.below(25), d.below(33)) }

// This part is the chapter, word by word, and asks neither pack nor mac.

func plainFits(v api.View) bool {
	byteFits := func(x int) bool { return x >= 0 && x <= 255 }
	fits := byteFits(v.Own.Player) && len(v.Own.Name) <= 255 && len(v.Seen) <= 255
	for _, x := range v.Seen {
		fits = fits && byteFits(x.Kind) && byteFits(x.Heading)
	}
	return fits
}

func plainWrite(v api.View) (string, api.Errno) {
	if !plainFits(v) {
		return "", 51
	}
	long := binary.BigEndian.AppendUint64
	own := v.Own
	s := long(nil, v.Tick)
	s = append(s, byte(own.Player), byte(len(own.Name)))
	s = append(s, own.Name...)
	for _, x := range []int64{own.At.X, own.At.Y, own.Speed.X, own.Speed.Y} {
		s = long(s, uint64(x))
	}
	for _, x := range []int{own.Heading, own.Health, own.Energy, own.Ammo, own.Cool, own.Wait, own.Spawns, own.Score} {
		s = long(s, uint64(x))
	}
	s = append(s, byte(len(v.Seen)))
	for _, x := range v.Seen {
		s = append(s, byte(x.Kind))
		s = long(long(long(s, uint64(x.Id)), uint64(x.At.X)), uint64(x.At.Y))
		s = append(s, byte(x.Heading))
	}
	return string(s), 0
}

// plainRead knows a view's length ahead: 107 bytes, those of the name, and 26 for each that is seen.
func plainRead(s string) (api.View, api.Errno) {
	if len(s) < 10 {
		return api.View{}, 50
	}
	name := int(s[9])
	if len(s) < 107+name {
		return api.View{}, 50
	}
	seen := int(s[106+name])
	switch length := 107 + name + 26*seen; {
	case len(s) < length:
		return api.View{}, 50
	case len(s) > length:
		return api.View{}, 51
	}
	long := func(at int) int64 { return int64(binary.BigEndian.Uint64([]byte(s)[at:])) }
	own := api.Car{Player: int(s[8]), Name: s[10 : 10+name]}
	for i, to := range []*int64{&own.At.X, &own.At.Y, &own.Speed.X, &own.Speed.Y} {
		*to = long(10 + name + 8*i)
	}
	for i, to := range []*int{&own.Heading, &own.Health, &own.Energy, &own.Ammo, &own.Cool, &own.Wait, &own.Spawns, &own.Score} {
		*to = int(long(42 + name + 8*i))
	}
	v := api.View{Tick: uint64(long(0)), Own: own}
	for i := range seen {
		at := 107 + name + 26*i
		v.Seen = append(v.Seen, api.Seen{Kind: int(s[at]), Id: int(long(at + 1)), At: api.Vec{X: long(at + 9), Y: long(at + 17)}, Heading: int(s[at+25])})
	}
	return v, 0
}

func plainTag(key, body string) string {
	h := hmac.New(sha256.New, []byte(key))
	h.Write([]byte(body))
	return string(h.Sum(nil))
}

// plainSnapshot seals any data.
func plainSnapshot(session, seq uint64, data, key string) string {
	body := binary.BigEndian.AppendUint64(binary.BigEndian.AppendUint64([]byte("J01\x06"), session), seq)
	body = append(body, data...)
	return string(body) + plainTag(key, string(body))
}

func plainMake(session, seq uint64, v api.View, key string) (string, api.Errno) {
	data, e := plainWrite(v)
	if e != 0 {
		return "", e
	}
	if len(data) > 1148 {
		return "", 72
	}
	return plainSnapshot(session, seq, data, key), 0
}

// opened is all that Open answers.
type opened struct {
	session, seq uint64
	view         api.View
	e            api.Errno
}

// plainOpen asks frame for other kinds alone: of these it need be known only whether they are refused.
func plainOpen(data, key string) opened {
	switch {
	case len(data) > 1200:
		return opened{e: 72}
	case !strings.HasPrefix(data, "J01"):
		return opened{e: 70}
	case len(data) < 4 || data[3] < 1 || data[3] > 7:
		return opened{e: 71}
	case data[3] != 6:
		if _, e := frame.Decode(data); e != 0 {
			return opened{e: e}
		}
		return opened{e: 71}
	case len(data) < 52:
		return opened{e: 72}
	}
	body := data[:len(data)-32]
	if data[len(body):] != plainTag(key, body) {
		return opened{e: 124}
	}
	v, e := plainRead(body[20:])
	if e != 0 {
		return opened{e: e}
	}
	number := func(at int) uint64 { return binary.BigEndian.Uint64([]byte(data)[at:]) }
	return opened{number(4), number(12), v, 0}
}

func same(a, b api.View) bool {
	return a.Tick == b.Tick && a.Own == b.Own && slices.Equal(a.Seen, b.Seen)
}

// wantWritten wants a view that fits written as the chapter says, and read back.
func wantWritten(t *testing.T, v api.View) string {
	t.Helper()
	want, e := plainWrite(v)
	if e != api.OK {
		t.Fatalf("%+v does not fit", v)
	}
	if s, e := snap.Write(v); e != api.OK || s != want {
		t.Fatalf("Write(%+v) = %x, %v, want %x", v, s, e, want)
	}
	if back, e := snap.Read(want); e != api.OK || !same(back, v) {
		t.Fatalf("Read(%x) = %+v, %v, want %+v", want, back, e, v)
	}
	return want
}

// wantRefused wants a view that does not fit written neither as bytes nor as a snapshot.
func wantRefused(t *testing.T, what string, v api.View) {
	t.Helper()
	if s, e := snap.Write(v); e != api.ErrRange || s != "" {
		t.Fatalf("%s: Write: %d bytes, %v, want %v", what, len(s), e, api.ErrRange)
	}
	if s, e := snap.Make(1, 2, v, "k"); e != api.ErrRange || s != "" {
		t.Fatalf("%s: Make: %d bytes, %v, want %v", what, len(s), e, api.ErrRange)
	}
}

// wantRead holds Read against the plain one; what is read is written to the same bytes.
func wantRead(t *testing.T, s string) api.Errno {
	t.Helper()
	want, e := plainRead(s)
	v, f := snap.Read(s)
	if f != e || !same(v, want) {
		t.Fatalf("Read(%x) = %+v, %v, want %+v, %v", s, v, f, want, e)
	}
	if e == api.OK {
		if again, e := snap.Write(v); e != api.OK || again != s {
			t.Fatalf("Read(%x) is written as %x, %v", s, again, e)
		}
	}
	return e
}

// wantUnread wants an error, and nothing beside it.
func wantUnread(t *testing.T, what, s string, want api.Errno) {
	t.Helper()
	if v, e := snap.Read(s); e != want || !same(v, api.View{}) {
		t.Fatalf("%s: Read of %d bytes = %+v, %v, want %v", what, len(s), v, e, want)
	}
	wantRead(t, s)
}

func open(data, key string) opened {
	session, seq, v, e := snap.Open(data, key)
	return opened{session, seq, v, e}
}

func (o opened) is(p opened) bool {
	return o.session == p.session && o.seq == p.seq && o.e == p.e && same(o.view, p.view)
}

// wantOpen holds Open against the plain one.
func wantOpen(t *testing.T, data, key string) api.Errno {
	t.Helper()
	got, want := open(data, key), plainOpen(data, key)
	if !got.is(want) {
		t.Fatalf("Open(%x, %q) = %+v, want %+v", data, key, got, want)
	}
	return got.e
}

// wantUnopened wants an error, and nothing beside it.
func wantUnopened(t *testing.T, what, data, key string, want api.Errno) {
	t.Helper()
	if got := open(data, key); !got.is(opened{e: want}) {
		t.Fatalf("%s: Open of %d bytes = %+v, want %v", what, len(data), got, want)
	}
	wantOpen(t, data, key)
}

// wantMade wants a snapshot made as the chapter says, and opened.
func wantMade(t *testing.T, session, seq uint64, v api.View, key string) string {
	t.Helper()
	want, e := plainMake(session, seq, v, key)
	if e != api.OK {
		t.Fatalf("%+v: %v", v, e)
	}
	if s, e := snap.Make(session, seq, v, key); e != api.OK || s != want {
		t.Fatalf("Make(%d, %d, %+v, %q) = %x, %v, want %x", session, seq, v, key, s, e, want)
	}
	if got := open(want, key); !got.is(opened{session, seq, v, api.OK}) {
		t.Fatalf("Open of Make(%d, %d, %+v, %q) = %+v", session, seq, v, key, got)
	}
	return want
}
