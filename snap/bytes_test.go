package snap_test

import (
	"math"
	"slices"
	"testing"
	"time"

	"joust/api"
	"joust/snap"
)

// P22.1: a view of which no two bytes are alike in their places, byte by byte.
func TestEveryByte(t *testing.T) {
	long := func(first byte) (int64, string) {
		x, s := uint64(0), ""
		for i := range byte(8) {
			x = x<<8 | uint64(first+i)
			s += string([]byte{first + i})
		}
		return int64(x), s
	}
	var n []int64
	var s []string
	for i := range byte(20) {
		x, bytes := long(1 + 12*i)
		n, s = append(n, x), append(s, bytes)
	}
	v := api.View{Tick: uint64(n[19]), Own: api.Car{
		Player: 0xfe, Name: "n\xff\x00e", At: api.Vec{X: n[0], Y: n[1]}, Speed: api.Vec{X: n[2], Y: n[3]}, Heading: int(n[4]), Health: int(n[5]),
		Energy: int(n[6]), Ammo: int(n[7]), Cool: int(n[8]), Wait: int(n[9]), Spawns: int(n[10]), Score: int(n[11]),
	}, Seen: []api.Seen{
		{Kind: 0xfd, Id: int(n[12]), At: api.Vec{X: n[13], Y: n[14]}, Heading: 0xfc},
		{Kind: 0x7f, Id: int(n[15]), At: api.Vec{X: n[16], Y: n[17]}, Heading: 0x80},
	}}
	want := s[19] + "\xfe" + "\x04n\xff\x00e" + s[0] + s[1] + s[2] + s[3] + s[4] + s[5] + s[6] + s[7] + s[8] + s[9] + s[10] + s[11] +
		"\x02" + "\xfd" + s[12] + s[13] + s[14] + "\xfc" + "\x7f" + s[15] + s[16] + s[17] + "\x80"
	if got, e := snap.Write(v); e != api.OK || got != want {
		t.Errorf("Write: %x, %v, want %x", got, e, want)
	}
	if got, e := snap.Read(want); e != api.OK || !same(got, v) {
		t.Errorf("Read: %+v, %v, want %+v", got, e, v)
	}
	wantWritten(t, v)
}

// bytePlaces are the numbers of one byte, of a view with three that are seen.
func bytePlaces(v *api.View) []*int {
	list := []*int{&v.Own.Player}
	for i := range v.Seen {
		list = append(list, &v.Seen[i].Kind, &v.Seen[i].Heading)
	}
	return list
}

// P22.1: each number of one byte at its bounds and beyond, alone, in one that is seen at each place of the list.
func TestBytePlaces(t *testing.T) {
	d := dice(3)
	for x := -700; x <= 700; x++ {
		for i := range 7 {
			v := d.view(2, 3)
			*bytePlaces(&v)[i] = x
			if x >= 0 && x <= 255 {
				wantWritten(t, v)
			} else {
				wantRefused(t, "a byte", v)
			}
		}
	}
	for _, x := range edges {
		for i := range 7 {
			v := d.view(2, 3)
			*bytePlaces(&v)[i] = x
			if x < 0 || x > 255 {
				wantRefused(t, "an edge", v)
			} else {
				wantWritten(t, v)
			}
		}
	}
}

// P22.1: all other numbers may be any, also with all others at an end.
func TestLongPlaces(t *testing.T) {
	d := dice(4)
	for _, x := range edges {
		for i := range 12 + 3*2 {
			v := d.view(2, 2)
			longs, ints := []*int64{&v.Own.At.X, &v.Own.At.Y, &v.Own.Speed.X, &v.Own.Speed.Y}, []*int{&v.Own.Heading, &v.Own.Health, &v.Own.Energy, &v.Own.Ammo, &v.Own.Cool, &v.Own.Wait, &v.Own.Spawns, &v.Own.Score}
			for k := range v.Seen {
				longs, ints = append(longs, &v.Seen[k].At.X, &v.Seen[k].At.Y), append(ints, &v.Seen[k].Id)
			}
			if i < len(longs) {
				*longs[i] = int64(x)
			} else {
				*ints[i-len(longs)] = x
			}
			wantWritten(t, v)
			for k := range longs {
				*longs[k] = int64(x)
			}
			for k := range ints {
				*ints[k] = x
			}
			wantWritten(t, v)
		}
	}
	for _, x := range []uint64{0, 1, 255, 256, 1<<32 - 1, 1 << 32, 1<<63 - 1, 1 << 63, 1<<63 + 1, math.MaxUint64 - 1, math.MaxUint64} {
		wantWritten(t, api.View{Tick: x})
	}
}

// P22.1: names of every length and of any bytes.
func TestNames(t *testing.T) {
	d := dice(5)
	for n := range 600 {
		for _, name := range []string{d.bytes(n), rep("n", n), zeros(n), rep("\xff", n)} {
			v := d.view(0, 1)
			v.Own.Name = name
			if n > 255 {
				wantRefused(t, "a name", v)
			} else if s := wantWritten(t, v); len(s) != 107+n+26 || int(s[9]) != n {
				t.Fatalf("a name of %d bytes: %d bytes", n, len(s))
			}
		}
	}
	for _, n := range []int{65535, 65536, 65536 + 2, 1 << 24} {
		v := d.view(0, 1)
		v.Own.Name = rep("n", n)
		wantRefused(t, "a long name", v)
	}
	for _, name := range []string{"\xff\xfe", "\xc3", "\u2588", "\x00", "a\nb", "\xed\xa0\x80", " "} {
		wantWritten(t, api.View{Own: api.Car{Name: name}})
	}
}

// P22.1: every number of those that are seen; a list of any length is refused at once.
func TestSeenCounts(t *testing.T) {
	d := dice(6)
	for n := range 600 {
		v := d.view(1, n)
		if n > 255 {
			wantRefused(t, "too many are seen", v)
		} else if s := wantWritten(t, v); len(s) != 108+26*n || int(s[107]) != n {
			t.Fatalf("%d are seen: %d bytes", n, len(s))
		}
	}
	for _, n := range []int{65535, 65536, 65536 + 2, 1 << 22} {
		v := example()
		v.Seen = make([]api.Seen, n)
		begun := time.Now()
		wantRefused(t, "very many are seen", v)
		if took := time.Since(begun); took > 5*time.Second {
			t.Errorf("%d are seen: %v", n, took)
		}
	}
}

// P22.1: several that do not fit, and one that does not fit among many that do.
func TestSeveralRefused(t *testing.T) {
	d := dice(7)
	for range 3000 {
		v := d.view(d.below(30), 1+d.below(40))
		for range 1 + d.below(4) {
			x := edges[d.below(len(edges))]
			if x >= 0 && x <= 255 {
				x = 256
			}
			switch i := d.below(len(v.Seen)); d.below(5) {
			case 0:
				v.Own.Player = x
			case 1:
				v.Own.Name = d.bytes(256 + d.below(300))
			case 2:
				v.Seen[i].Kind = x
			case 3:
				v.Seen[i].Heading = x
			default:
				v.Seen = append(v.Seen, make([]api.Seen, 256)...)
			}
		}
		wantRefused(t, "several", v)
	}
}

// samples are views of which every cut is looked at.
func samples() []api.View {
	d := dice(8)
	list := []api.View{{}, example(), d.view(0, 0), d.view(1, 0), d.view(0, 1), d.view(24, 3), d.view(255, 2), d.view(3, 32)}
	if testing.Short() {
		return list
	}
	return append(list, d.view(9, 255))
}

// P22.1: bytes cut at every place: ErrShort; more of them: ErrRange.
func TestCutAndMore(t *testing.T) {
	d := dice(9)
	for _, v := range samples() {
		s := wantWritten(t, v)
		for n := range len(s) {
			wantUnread(t, "cut", s[:n], api.ErrShort)
		}
		for b := range 256 {
			wantUnread(t, "a byte more", s+string([]byte{byte(b)}), api.ErrRange)
		}
		for n := range 60 {
			wantUnread(t, "more", s+d.bytes(n+1), api.ErrRange)
		}
		wantUnread(t, "twice", s+s, api.ErrRange)
		wantUnread(t, "many more", s+zeros(1<<20), api.ErrRange)
	}
}

// P22.1: a number of those that are seen that is more, or less, than there are.
func TestOtherCounts(t *testing.T) {
	d := dice(10)
	for _, there := range []int{0, 1, 2, 31, 32, 33, 254, 255} {
		v := d.view(5, there)
		s := wantWritten(t, v)
		for said := range 256 {
			other := s[:111] + string([]byte{byte(said)}) + s[112:]
			switch {
			case said > there:
				wantUnread(t, "more said", other, api.ErrShort)
			case said < there:
				wantUnread(t, "less said", other, api.ErrRange)
			default:
				wantRead(t, other)
			}
		}
	}
	// The byte behind says how many are seen, where the name is said to end elsewhere.
	for said := range 256 {
		wantRead(t, zeros(9)+string([]byte{byte(said)})+zeros(106))
		wantRead(t, zeros(9)+string([]byte{byte(said)})+zeros(400))
		wantRead(t, zeros(9)+string([]byte{byte(said)})+zeros(97+said))
		wantUnread(t, "a byte less", zeros(9)+string([]byte{byte(said)})+zeros(96+said), api.ErrShort)
	}
}

// P22.1: bytes of every length, zeros, ones, any.
func TestEveryLength(t *testing.T) {
	d := dice(11)
	for n := range 1300 {
		wantRead(t, zeros(n))
		wantRead(t, rep("\xff", n))
		wantRead(t, rep("\x01", n))
		wantRead(t, d.bytes(n))
	}
	for _, n := range []int{7000, 1 << 16, 1 << 24} {
		wantUnread(t, "very many", zeros(n), api.ErrRange)
		wantUnread(t, "very many", rep("\xff", n), api.ErrRange)
	}
}

// P22.2: any views, there and back.
func TestThereAndBack(t *testing.T) {
	d := dice(12)
	for range 5000 {
		wantWritten(t, d.small())
	}
	for range 300 {
		wantWritten(t, d.view(d.below(256), d.below(256)))
	}
}

// P22.2: any bytes that are read are written to the same ones; each field may be any.
func TestBackAndThere(t *testing.T) {
	d := dice(13)
	answers := map[api.Errno]int{}
	for range 20000 {
		name, seen := d.below(30), d.below(6)
		s := []byte(d.bytes(107 + name + 26*seen))
		s[9], s[106+name] = byte(name), byte(seen)
		if d.one(3) {
			s[d.below(len(s))] ^= 1 << d.below(8)
			s[[]int{9, 106 + name}[d.below(2)]] ^= 1 << d.below(3)
		}
		if d.one(6) {
			s = s[:d.below(len(s))]
		}
		if d.one(6) {
			s = append(s, d.bytes(d.below(60))...)
		}
		answers[wantRead(t, string(s))]++
	}
	for _, e := range []api.Errno{api.OK, api.ErrShort, api.ErrRange} {
		if answers[e] < 1000 {
			t.Errorf("%v came only %d times", e, answers[e])
		}
	}
}

// P22.1: those that are seen may stand in any order, and twice.
func TestSeenInAnyOrder(t *testing.T) {
	d := dice(14)
	v := d.view(2, 6)
	v.Seen = slices.Concat(v.Seen, v.Seen)
	for i := range v.Seen {
		k := d.below(i + 1)
		v.Seen[i], v.Seen[k] = v.Seen[k], v.Seen[i]
		wantWritten(t, v)
	}
	slices.Reverse(v.Seen)
	wantWritten(t, v)
}
