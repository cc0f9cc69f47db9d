package client_test

import (
	"math"
	"strings"
	"testing"

	"joust/api"
	"joust/snap"
)

// dice give numbers that look like chance and are the same in every run.
type dice uint64

func (d *dice) word() uint64 {
	*d ^= *d << 13
	*d ^= *d >> 7
	*d ^= *d << 17
	return uint64(*d) * 0x2545f4914f6cdd1d
}

func (d *dice) below(n int) int { return int(d.word() >> 20 % uint64(n)) }

func (d *dice) within(least, most int) int { return least + d.below(most-least+1) }

func (d *dice) one(n int) bool { return d.below(n) == 0 }

func (d *dice) bytes(n int) string {
	b := make([]byte, n)
	for i := range b {
		b[i] = byte(d.word() >> 20)
	}
	return string(b)
}

func pick[T any](d *dice, list ...T) T { return list[d.below(len(list))] }

var rep = strings.Repeat

// rounds are fewer where there is no time.
func rounds(n int) int {
	if testing.Short() {
		return max(1, n/10)
	}
	return n
}

// numbers are those at which one may go wrong.
var numbers = []int{math.MinInt, math.MinInt + 1, -1 << 40, -1 << 32, -65536, -512, -257, -256, -255, -130, -129, -128, -127, -101, -100, -9, -8, -1, 0, 1, 8, 9, 100, 101, 126, 127, 128, 129, 255, 256, 257, 383, 384, 511, 512, 65535, 65536, 1<<32 - 1, 1 << 32, 1<<40 + 5, math.MaxInt - 1, math.MaxInt}

func (d *dice) command() api.Command {
	x := api.Command{Throttle: d.within(-128, 127), Turn: d.within(-128, 127), Fire: d.one(2), Boost: d.one(2)}
	if d.one(6) {
		x.Throttle = pick(d, numbers...)
	}
	if d.one(6) {
		x.Turn = pick(d, numbers...)
	}
	return x
}

// view is any one that can be written and sent: a client does not ask whether an arena has it.
func (d *dice) view() api.View {
	n := func() int { return int(d.word()) }
	at := func() api.Vec { return api.Vec{X: int64(d.word()), Y: int64(d.word())} }
	v := api.View{Tick: d.word(), Own: api.Car{
		Player: d.below(256), Name: d.bytes(d.below(25)), At: at(), Speed: at(), Heading: n(), Health: n(),
		Energy: n(), Ammo: n(), Cool: n(), Wait: n(), Spawns: n(), Score: n(),
	}}
	for range d.below(pick(d, 1, 2, 5, 33)) {
		v.Seen = append(v.Seen, api.Seen{Kind: d.below(256), Id: n(), At: at(), Heading: d.below(256)})
	}
	return v
}

func written(v api.View) string {
	s, e := snap.Write(v)
	if e != api.OK {
		panic(e)
	}
	return s
}

// turned is a text with a byte turned, cut off, or put in.
func (d *dice) turned(s string) string {
	if s == "" {
		return "J"
	}
	i := d.below(len(s))
	switch d.below(4) {
	case 0:
		return s[:i]
	case 1:
		return s[:i] + d.bytes(1) + s[i:]
	}
	return s[:i] + string([]byte{s[i] ^ 1<<d.below(8)}) + s[i+1:]
}

// junk is no datagram, or hardly one.
func (d *dice) junk() string {
	kind := string([]byte{byte(d.below(10))})
	return pick(d, "", "J", "J0", "J01", "J02\x02", "j01\x02", d.bytes(d.below(1300)), "J01"+kind, "J01"+kind+d.bytes(d.below(120)), "J01"+kind+rep("\x00", d.below(100)), "J01\x06"+d.bytes(pick(d, 47, 48, 1196, 1197)), "J01\x02"+d.bytes(pick(d, 55, 56, 57)), "J01\x04"+d.bytes(pick(d, 72, 73, 74)), "J01\x07"+d.bytes(pick(d, 47, 48, 49)), "J01\x01"+rep("\x00", 1197))
}
