package cookie_test

import (
	"encoding/binary"
	"math"
	"testing"

	"joust/api"
	"joust/cookie"
	"joust/mac"
)

// dice give numbers that look like chance and are the same in every run.
type dice uint64

func (d *dice) word() uint64 {
	*d ^= *d << 13
	*d ^= *d >> 7
	*d ^= *d << 17
	return uint64(*d) * 0x2545f4914f6cdd1d
}

func (d *dice) below(n int) int { return int(d.word() >> 20 % uint64(n)) }

// text is one of few short texts mostly, so that one comes again, and now and then any bytes of any length about the edges.
func (d *dice) text() string {
	if d.below(3) > 0 {
		return []string{"", "a", "b", "ab", "ba", "\x00", "a\x00", "192.0.2.1:7"}[d.below(8)]
	}
	b := make([]byte, []int{1, 8, 16, 31, 32, 33, 63, 64, 65, 255, 256, 300, 1201}[d.below(13)])
	for i := range b {
		b[i] = byte(d.word() >> 33)
	}
	return string(b)
}

// plain is a jar as the chapter tells it: the list of the secrets of all epochs, the first one's first.
type plain struct{ secrets []string }

func plainJar(seed string) plain { return plain{[]string{mac.Derive(seed, "cookie")}} }

func (p *plain) epoch() uint64 { return uint64(len(p.secrets)) }

func (p *plain) turn(chance string) {
	p.secrets = append(p.secrets, mac.Derive(p.secrets[len(p.secrets)-1], "turn", chance))
}

// baked is the cookie of an epoch that was there.
func (p *plain) baked(from, nonce string, epoch uint64) string {
	return mac.Derive(p.secrets[epoch-1], "cookie", from, nonce, string(binary.BigEndian.AppendUint64(nil, epoch)))
}

func (p *plain) check(from, nonce string, epoch uint64, c string) api.Errno {
	if epoch == 0 || epoch > p.epoch() || p.epoch()-epoch > 1 {
		return api.ErrEpoch
	}
	if c != p.baked(from, nonce, epoch) {
		return api.ErrCookie
	}
	return api.OK
}

// someEpoch is about the current one mostly, and now and then any number.
func someEpoch(d *dice, now uint64) uint64 {
	switch d.below(8) {
	case 0:
		return d.word() >> d.below(64)
	case 1:
		return []uint64{0, 1, math.MaxUint64, now + 1<<32}[d.below(4)]
	}
	return now + 1 - min(now+1, uint64(d.below(5)))
}

// someCookie is one that was right for these in this epoch, if it was there, or in one about now; or such a one cut, made longer, or with a bit turned.
func someCookie(d *dice, p *plain, from, nonce string, epoch uint64) string {
	if epoch == 0 || epoch > p.epoch() || d.below(3) == 0 {
		epoch = p.epoch() - min(p.epoch()-1, uint64(d.below(3)))
	}
	c := p.baked(from, nonce, epoch)
	switch d.below(8) {
	case 0:
		return c[:d.below(32)]
	case 1:
		return c + d.text()
	case 2:
		b := []byte(c)
		b[d.below(32)] ^= 1 << d.below(8)
		return string(b)
	}
	return c
}

// anyCalls does any calls to a jar and to a plain list, and holds all answers of one against the other's; it counts the answers of Check.
func anyCalls(t *testing.T, d *dice, calls int, answers map[api.Errno]int) {
	t.Helper()
	seed := d.text()
	j, p := cookie.New(seed), plainJar(seed)
	for i := range calls {
		from, nonce := d.text(), d.text()
		switch d.below(8) {
		case 0:
			j.Turn(from)
			p.turn(from)
		case 1, 2:
			if c, want := j.Bake(from, nonce), p.baked(from, nonce, p.epoch()); c != want {
				t.Fatalf("call %d: Bake(%q, %q) in epoch %d: %x, want %x", i, from, nonce, p.epoch(), c, want)
			}
		default:
			epoch := someEpoch(d, p.epoch())
			c := someCookie(d, &p, from, nonce, epoch)
			if d.below(4) == 0 {
				from, nonce = nonce, from
			}
			e, want := j.Check(from, nonce, epoch, c), p.check(from, nonce, epoch, c)
			if e != want {
				t.Fatalf("call %d: Check(%q, %q, %d, %x) in epoch %d: %v, want %v", i, from, nonce, epoch, c, p.epoch(), e, want)
			}
			answers[e]++
		}
		if j.Epoch() != p.epoch() {
			t.Fatalf("behind call %d: epoch %d, want %d", i, j.Epoch(), p.epoch())
		}
	}
}

// P10.1 to P10.4, R13: any calls in any order answer as a list of all secrets does.
func TestAnyCalls(t *testing.T) {
	d := dice(10)
	answers := map[api.Errno]int{}
	for range 200 {
		anyCalls(t, &d, 150, answers)
	}
	for _, e := range []api.Errno{api.OK, api.ErrEpoch, api.ErrCookie} {
		if answers[e] < 2000 {
			t.Errorf("only %d answers %v: the calls try too little", answers[e], e)
		}
	}
}

// P10.1, P10.2: the epoch's number goes on rightly where its next byte begins.
func TestManyTurns(t *testing.T) {
	j, p := cookie.New("s"), plainJar("s")
	for range 66000 {
		if now := p.epoch(); now%256 < 2 || now%256 == 255 {
			c, before := p.baked("x", "n", now), p.baked("x", "n", max(1, now-1))
			if got := j.Bake("x", "n"); got != c {
				t.Fatalf("epoch %d: %x, want %x", now, got, c)
			}
			wantEpoch(t, j, now)
			wantCheck(t, j, "x", "n", now, c, api.OK)
			wantCheck(t, j, "x", "n", max(1, now-1), before, api.OK)
			wantCheck(t, j, "x", "n", now+1, c, api.ErrEpoch)
			if now > 2 {
				wantCheck(t, j, "x", "n", now-2, p.baked("x", "n", now-2), api.ErrEpoch)
			}
		}
		j.Turn("q")
		p.turn("q")
	}
}
