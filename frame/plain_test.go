package frame_test

import (
	"encoding/binary"
	"math"
	"strings"
	"testing"

	"joust/api"
	"joust/frame"
	"joust/mac"
)

var (
	rep = strings.Repeat
	n16 = rep("n", 16)
	t32 = rep("t", 32)
)

// dice is a row of numbers that look like chance and are the same in each run.
type dice uint64

func (d *dice) word() uint64 {
	*d ^= *d << 13
	*d ^= *d >> 7
	*d ^= *d << 17
	return uint64(*d)
}

func (d *dice) below(n int) int { return int(d.word() % uint64(n)) }

func (d *dice) bytes(n int) string {
	b := make([]byte, n)
	for i := range b {
		b[i] = byte(d.word() >> 20)
	}
	return string(b)
}

// some picks one of a list.
func some[T any](d *dice, list []T) T { return list[d.below(len(list))] }

// kinds are all that there are; noKinds are none.
var (
	kinds   = []int{1, 2, 3, 4, 5, 6, 7}
	noKinds = []int{0, 8, 9, -1, -7, '1', 255, 256, 257, 259, 263, -251, 1 << 32, 1<<32 + 5, math.MaxInt, math.MinInt, math.MinInt + 1}
)

// parts tells which fields the chapter's table gives a kind.
func parts(kind int) []string {
	return strings.Fields([]string{
		"",
		"Nonce",
		"Nonce Epoch Cookie",
		"Nonce Epoch Cookie Name Tag",
		"Nonce Session Player Salt Tag",
		"Session Seq Throttle Turn Fire Boost Tag",
		"Session Seq Data Tag",
		"Session Seq Tag",
	}[kind])
}

// move brings one field from a datagram to another.
func move(to *api.Datagram, from api.Datagram, part string) {
	switch part {
	case "Nonce":
		to.Nonce = from.Nonce
	case "Epoch":
		to.Epoch = from.Epoch
	case "Cookie":
		to.Cookie = from.Cookie
	case "Name":
		to.Name = from.Name
	case "Session":
		to.Session = from.Session
	case "Player":
		to.Player = from.Player
	case "Salt":
		to.Salt = from.Salt
	case "Seq":
		to.Seq = from.Seq
	case "Throttle":
		to.Command.Throttle = from.Command.Throttle
	case "Turn":
		to.Command.Turn = from.Command.Turn
	case "Fire":
		to.Command.Fire = from.Command.Fire
	case "Boost":
		to.Command.Boost = from.Command.Boost
	case "Data":
		to.Data = from.Data
	case "Tag":
		to.Tag = from.Tag
	default:
		panic(part)
	}
}

// stripped is a datagram without what its kind has not.
func stripped(d api.Datagram) api.Datagram {
	s := api.Datagram{Kind: d.Kind}
	for _, p := range parts(d.Kind) {
		move(&s, d, p)
	}
	return s
}

// fitting is a datagram of a kind with all fields, those too that the kind has not, each fitting its place.
func fitting(d *dice, kind int) api.Datagram {
	words := []uint64{0, 1, 255, 256, 1 << 32, 1<<63 - 1, 1 << 63, math.MaxUint64, d.word()}
	levers := []int{-128, -127, -100, -1, 0, 1, 100, 127, d.below(256) - 128}
	return api.Datagram{
		Kind:    kind,
		Nonce:   d.bytes(16),
		Epoch:   some(d, words),
		Cookie:  d.bytes(32),
		Name:    d.bytes(some(d, []int{0, 1, 3, 24, 31, 32, 33, 254, 255})),
		Session: some(d, words),
		Player:  some(d, []int{0, 1, 31, 32, 127, 128, 255}),
		Salt:    d.bytes(16),
		Seq:     some(d, words),
		Command: api.Command{Throttle: some(d, levers), Turn: some(d, levers), Fire: d.below(2) == 0, Boost: d.below(2) == 0},
		Data:    d.bytes(some(d, []int{0, 1, 31, 32, 33, 76, 700, 1147, 1148})),
		Tag:     d.bytes(32),
	}
}

// odd is one with one field that does not fit, or with Data that is too long; it tells which.
func odd(d *dice, kind int) (api.Datagram, string) {
	out := []int{256, 257, -1, -256, 511, 1 << 32, 1<<32 + 1, math.MaxInt, math.MinInt}
	beyond := []int{128, 129, 255, 256, -129, -130, -256, 1 << 32, 1<<32 + 5, -1 << 32, math.MaxInt, math.MinInt}
	x := api.Datagram{
		Nonce:   d.bytes(some(d, []int{0, 1, 15, 17, 32, 272})),
		Cookie:  d.bytes(some(d, []int{0, 16, 31, 33, 64, 288})),
		Name:    d.bytes(some(d, []int{256, 257, 300, 511, 512, 1200})),
		Player:  some(d, out),
		Salt:    d.bytes(some(d, []int{0, 1, 15, 17, 32, 272})),
		Command: api.Command{Throttle: some(d, beyond), Turn: some(d, beyond)},
		Data:    d.bytes(some(d, []int{1149, 1150, 1200, 1201, 3000})),
		Tag:     d.bytes(some(d, []int{0, 16, 31, 33, 64, 288})),
	}
	part := some(d, strings.Fields("Nonce Cookie Name Player Salt Throttle Turn Data Tag"))
	to := fitting(d, kind)
	move(&to, x, part)
	return to, part
}

// plainLength tells whether the chapter's table gives a datagram so many bytes.
func plainLength(s string) bool {
	switch s[3] {
	case 3:
		return len(s) >= 93 && len(s) == 93+int(s[60])
	case 6:
		return len(s) >= 52
	}
	return len(s) == []int{0, 96, 60, 0, 77, 55, 0, 52}[s[3]]
}

func number(s string) uint64 { return binary.BigEndian.Uint64([]byte(s)) }

func octets(x uint64) string { return string(binary.BigEndian.AppendUint64(nil, x)) }

// plainDecode takes a datagram apart by the places of the chapter's table.
func plainDecode(s string) (api.Datagram, api.Errno) {
	switch {
	case len(s) > 1200:
		return api.Datagram{}, api.ErrLength
	case len(s) < 3 || s[:3] != "J01":
		return api.Datagram{}, api.ErrMagic
	case len(s) < 4 || s[3] < 1 || s[3] > 7:
		return api.Datagram{}, api.ErrKind
	case !plainLength(s):
		return api.Datagram{}, api.ErrLength
	case s[3] == 1 && s[20:] != rep("\x00", 76), s[3] == 5 && s[22] > 3:
		return api.Datagram{}, api.ErrField
	}
	tag := s[len(s)-32:]
	switch s[3] {
	case 1:
		return api.Datagram{Kind: 1, Nonce: s[4:20]}, api.OK
	case 2:
		return api.Datagram{Kind: 2, Nonce: s[4:20], Epoch: number(s[20:28]), Cookie: s[28:60]}, api.OK
	case 3:
		return api.Datagram{Kind: 3, Nonce: s[4:20], Epoch: number(s[20:28]), Cookie: s[28:60], Name: s[61 : len(s)-32], Tag: tag}, api.OK
	case 4:
		return api.Datagram{Kind: 4, Nonce: s[4:20], Session: number(s[20:28]), Player: int(s[28]), Salt: s[29:45], Tag: tag}, api.OK
	case 5:
		c := api.Command{Throttle: int(int8(s[20])), Turn: int(int8(s[21])), Fire: s[22]%2 == 1, Boost: s[22] >= 2}
		return api.Datagram{Kind: 5, Session: number(s[4:12]), Seq: number(s[12:20]), Command: c, Tag: tag}, api.OK
	case 6:
		return api.Datagram{Kind: 6, Session: number(s[4:12]), Seq: number(s[12:20]), Data: s[20 : len(s)-32], Tag: tag}, api.OK
	}
	return api.Datagram{Kind: 7, Session: number(s[4:12]), Seq: number(s[12:20]), Tag: tag}, api.OK
}

// plainFits tells whether a field that a kind has fits its place.
func plainFits(d api.Datagram, part string) bool {
	switch part {
	case "Nonce":
		return len(d.Nonce) == 16
	case "Salt":
		return len(d.Salt) == 16
	case "Cookie":
		return len(d.Cookie) == 32
	case "Tag":
		return len(d.Tag) == 32
	case "Name":
		return len(d.Name) <= 255
	case "Player":
		return d.Player >= 0 && d.Player <= 255
	case "Throttle":
		return d.Command.Throttle >= -128 && d.Command.Throttle <= 127
	case "Turn":
		return d.Command.Turn >= -128 && d.Command.Turn <= 127
	}
	return true
}

// plainEncode writes a datagram by the chapter's table.
func plainEncode(d api.Datagram) (string, api.Errno) {
	if d.Kind < 1 || d.Kind > 7 {
		return "", api.ErrKind
	}
	for _, p := range parts(d.Kind) {
		if !plainFits(d, p) {
			return "", api.ErrField
		}
	}
	flags := byte(0)
	if d.Command.Fire {
		flags++
	}
	if d.Command.Boost {
		flags += 2
	}
	s := []string{
		d.Nonce + rep("\x00", 76),
		d.Nonce + octets(d.Epoch) + d.Cookie,
		d.Nonce + octets(d.Epoch) + d.Cookie + string([]byte{byte(len(d.Name))}) + d.Name + d.Tag,
		d.Nonce + octets(d.Session) + string([]byte{byte(d.Player)}) + d.Salt + d.Tag,
		octets(d.Session) + octets(d.Seq) + string([]byte{byte(d.Command.Throttle), byte(d.Command.Turn), flags}) + d.Tag,
		octets(d.Session) + octets(d.Seq) + d.Data + d.Tag,
		octets(d.Session) + octets(d.Seq) + d.Tag,
	}[d.Kind-1]
	if len(s)+4 > 1200 {
		return "", api.ErrLength
	}
	return "J01" + string([]byte{byte(d.Kind)}) + s, api.OK
}

func plainBody(s string) string {
	if len(s) < 36 || s[:3] != "J01" || s[3] < 3 || s[3] > 7 {
		return ""
	}
	return s[:len(s)-32]
}

func plainSeal(d api.Datagram, key string) (string, api.Errno) {
	if d.Kind == 1 || d.Kind == 2 {
		return "", api.ErrKind
	}
	d.Tag = rep("?", 32)
	s, e := plainEncode(d)
	if e != api.OK {
		return "", e
	}
	return s[:len(s)-32] + mac.Tag(key, s[:len(s)-32]), api.OK
}

// head is the first bytes of a text, for telling.
func head(s string) string { return s[:min(len(s), 64)] }

// wantDecode holds Decode, and Body, against the plain ones.
func wantDecode(t *testing.T, s string) {
	t.Helper()
	want, we := plainDecode(s)
	if d, e := frame.Decode(s); d != want || e != we {
		t.Fatalf("Decode of %d bytes %q = %+v, %v, want %+v, %v", len(s), head(s), d, e, want, we)
	}
	if b, want := frame.Body(s), plainBody(s); b != want {
		t.Fatalf("Body of %d bytes %q has %d, want %d", len(s), head(s), len(b), len(want))
	}
}

// wantEncode holds Encode, and Seal, against the plain ones.
func wantEncode(t *testing.T, d api.Datagram) {
	t.Helper()
	want, we := plainEncode(d)
	if s, e := frame.Encode(d); s != want || e != we {
		t.Fatalf("Encode(%+v) = %q, %v, want %q, %v", d, s, e, want, we)
	}
	want, we = plainSeal(d, "key")
	if s, e := frame.Seal(d, "key"); s != want || e != we {
		t.Fatalf("Seal(%+v) = %q, %v, want %q, %v", d, s, e, want, we)
	}
}
