package cookie_test

import (
	"encoding/hex"
	"math"
	"slices"
	"strings"
	"testing"
	"unsafe"

	"joust/api"
	"joust/cookie"
	"joust/mac"
)

// pattern gives n bytes of which no two blocks are alike.
func pattern(n int) string {
	p := make([]byte, n)
	for i := range p {
		p[i] = byte(i*7 + 3)
	}
	return string(p)
}

// turned is a jar of a seed behind Turns with these chances.
func turned(seed string, chances ...string) *cookie.Jar {
	j := cookie.New(seed)
	for _, chance := range chances {
		j.Turn(chance)
	}
	return j
}

func wantEpoch(t *testing.T, j *cookie.Jar, want uint64) {
	t.Helper()
	if j.Epoch() != want {
		t.Fatalf("epoch %d, want %d", j.Epoch(), want)
	}
}

// wantCheck asks Check twice: the first one changes nothing.
func wantCheck(t *testing.T, j *cookie.Jar, from, nonce string, epoch uint64, c string, want api.Errno) {
	t.Helper()
	for range 2 {
		if e := j.Check(from, nonce, epoch, c); e != want {
			t.Fatalf("Check(%.20q, %.20q, %d, %x) in epoch %d: %v, want %v", from, nonce, epoch, c, j.Epoch(), e, want)
		}
	}
}

// P10.1: api's numbers are the chapter's.
func TestNumbers(t *testing.T) {
	if api.OK != 0 || api.ErrEpoch != 100 || api.ErrCookie != 101 || api.TagLen != 32 {
		t.Fatal(api.OK, api.ErrEpoch, api.ErrCookie, api.TagLen)
	}
}

// P10.1: the chapter's examples, in their order.
func TestExamples(t *testing.T) {
	j := cookie.New("s")
	wantEpoch(t, j, 1)
	c := j.Bake("x", "n")
	wantCheck(t, j, "x", "n", 1, c, api.OK)
	wantCheck(t, j, "y", "n", 1, c, api.ErrCookie)
	wantCheck(t, j, "x", "m", 1, c, api.ErrCookie)
	wantCheck(t, j, "x", "n", 1, "", api.ErrCookie)
	wantCheck(t, j, "x", "n", 2, c, api.ErrEpoch)
	wantCheck(t, j, "x", "n", 0, c, api.ErrEpoch)
	if c != mac.Derive(mac.Derive("s", "cookie"), "cookie", "x", "n", "\x00\x00\x00\x00\x00\x00\x00\x01") {
		t.Fatalf("the first cookie is %x", c)
	}
	j.Turn("chance")
	wantEpoch(t, j, 2)
	wantCheck(t, j, "x", "n", 1, c, api.OK)
	d := j.Bake("x", "n")
	if d == c {
		t.Fatal("the next epoch's cookie is this one's")
	}
	wantCheck(t, j, "x", "n", 2, c, api.ErrCookie)
	wantCheck(t, j, "x", "n", 2, d, api.OK)
	j.Turn("chance")
	wantEpoch(t, j, 3)
	wantCheck(t, j, "x", "n", 1, c, api.ErrEpoch)
	wantCheck(t, j, "x", "n", 2, d, api.OK)
}

// P10.1: cookies that were made by another program, of empty and long seeds, chances, sources and nonces, and of epochs of one, two and three bytes.
func TestKnownCookies(t *testing.T) {
	for i, x := range []struct {
		seed        string
		chances     []string
		from, nonce string
		want        string
	}{
		{"s", nil, "x", "n", "6779ce5cd62ffecd18b42b8bd27516406fdf10d77ff3f35bb0f946ecc3036a8b"},
		{"s", []string{"chance"}, "x", "n", "a61034b3e6eb5439a209039356478eed8083b72fc4e02508aa68241ddede2324"},
		{"s", []string{"chance", "chance"}, "x", "n", "3c3b6a236dce931d1e5039467f137ba8d6bc0669be090b29c7f4a6c8279726b1"},
		{"", nil, "", "", "9ecce431df8510899c0d70afae5b5a7ea6b6a4266d7527024f276f9566d3567e"},
		{"", []string{""}, "", "", "8827631db543d95bfe7cf388b829e942af615c018c876935d00ebf4afe3bc88f"},
		{pattern(64), []string{pattern(32)}, "192.0.2.1:7", pattern(16), "59cee8bf791ab8bf5b4626dc877d07947f9e294c3445f230dbe7a6fcc005aea9"},
		{pattern(65), []string{pattern(33), pattern(1000)}, pattern(300), pattern(70000), "d4731f82159e79040f374e31b94273c15f651f1a1e578f15ad86d066bedefc1e"},
		{"s", slices.Repeat([]string{"q"}, 299), "x", "n", "fc53e13a282a3185a0f7ade4cd77cd19f6887f3b2e978164634da40ca55d538e"},
		{"s", slices.Repeat([]string{"q"}, 65535), "x", "n", "86e294866c623f030c2f2f60e7f597aabd92fb945a12b0da3b447dc023de2675"},
	} {
		j := turned(x.seed, x.chances...)
		c := j.Bake(x.from, x.nonce)
		if got := hex.EncodeToString([]byte(c)); got != x.want {
			t.Errorf("cookie %d: %s, want %s", i, got, x.want)
		}
		wantEpoch(t, j, uint64(len(x.chances)+1))
		wantCheck(t, j, x.from, x.nonce, j.Epoch(), c, api.OK)
	}
}

// P10.1: in no epoch is 0 one, though in epoch 1 it is the number ahead; nor is one that is alike in its low bytes alone.
func TestOtherEpochs(t *testing.T) {
	j := cookie.New("s")
	for now := uint64(1); now <= 5; now++ {
		wantEpoch(t, j, now)
		c := j.Bake("x", "n")
		for _, epoch := range []uint64{0, now + 1, now + 2, now + 1<<8, now - 1 + 1<<8, now + 1<<16, now + 1<<32, now - 1 + 1<<32, now + 1<<63, math.MaxUint64} {
			wantCheck(t, j, "x", "n", epoch, c, api.ErrEpoch)
			wantCheck(t, j, "x", "n", epoch, "", api.ErrEpoch)
			wantCheck(t, j, "x", "n", epoch, strings.Repeat("\x00", 32), api.ErrEpoch)
		}
		for epoch := range now - 1 {
			wantCheck(t, j, "x", "n", epoch, c, api.ErrEpoch)
		}
		j.Turn("q")
	}
}

// P10.1: a cookie under no secret, which anybody can make, is not that of an epoch 0 ahead of the first.
func TestNoSecret(t *testing.T) {
	j := cookie.New("s")
	zero := strings.Repeat("\x00", 8)
	for _, key := range []string{"", strings.Repeat("\x00", 32), "s"} {
		wantCheck(t, j, "x", "n", 0, mac.Derive(key, "cookie", "x", "n", zero), api.ErrEpoch)
		wantCheck(t, j, "x", "n", 1, mac.Derive(key, "cookie", "x", "n", zero[1:]+"\x01"), api.ErrCookie)
	}
}

// P10.1: only all 32 bytes are the cookie: no piece of it, nothing longer, no bit turned.
func TestOtherCookies(t *testing.T) {
	j := cookie.New("s")
	first := j.Bake("x", "n")
	j.Turn("q")
	for epoch, c := range map[uint64]string{1: first, 2: j.Bake("x", "n")} {
		for n := range c {
			wantCheck(t, j, "x", "n", epoch, c[:n], api.ErrCookie)
			wantCheck(t, j, "x", "n", epoch, c[n+1:], api.ErrCookie)
		}
		for _, bad := range []string{c + "\x00", "\x00" + c, c + c, c + c[:1], strings.Repeat("\x00", 32), pattern(70000)} {
			wantCheck(t, j, "x", "n", epoch, bad, api.ErrCookie)
		}
		for bit := range 8 * len(c) {
			b := []byte(c)
			b[bit/8] ^= 1 << (bit % 8)
			wantCheck(t, j, "x", "n", epoch, string(b), api.ErrCookie)
		}
		wantCheck(t, j, "x", "n", epoch, c, api.OK)
	}
}

// P10.1: Turn("") is a turn like any other: another epoch, another secret.
func TestEmptyChance(t *testing.T) {
	j, k := cookie.New(""), cookie.New("")
	seen := []string{j.Bake("", "")}
	for i := range 20 {
		j.Turn("")
		wantEpoch(t, j, uint64(i+2))
		c := j.Bake("", "")
		if slices.Contains(seen, c) {
			t.Fatalf("epoch %d bakes what an earlier one baked", j.Epoch())
		}
		seen = append(seen, c)
		if k.Turn("\x00"); k.Bake("", "") == c {
			t.Fatalf("epoch %d: a chance of a zero byte is taken for none", j.Epoch())
		}
	}
}

// P10.2: what was baked is taken in its epoch and the next, and never again, whatever the Turns bring.
func TestEchoed(t *testing.T) {
	j := cookie.New("seed")
	type baked struct{ from, nonce, c string }
	var all []baked
	for now := uint64(1); now <= 60; now++ {
		from, nonce := pattern(int(now%7)), pattern(int(now))
		all = append(all, baked{from, nonce, j.Bake(from, nonce)})
		for i, b := range all {
			epoch, want := uint64(i+1), api.ErrEpoch
			if epoch+1 >= now {
				want = api.OK
			}
			wantCheck(t, j, b.from, b.nonce, epoch, b.c, want)
			if want != api.OK {
				wantCheck(t, j, b.from, b.nonce, now, b.c, api.ErrCookie)
				wantCheck(t, j, b.from, b.nonce, now-1, b.c, api.ErrCookie)
			}
		}
		j.Turn(pattern(int(now%3) * 16))
	}
}

// P10.3: a cookie is nobody else's, nor is it one of the other epoch.
func TestNobodyElses(t *testing.T) {
	j := cookie.New("s")
	first := j.Bake("x", "n")
	j.Turn("q")
	second := j.Bake("x", "n")
	wantCheck(t, j, "x", "n", 1, second, api.ErrCookie)
	wantCheck(t, j, "x", "n", 2, first, api.ErrCookie)
	for epoch, c := range map[uint64]string{1: first, 2: second} {
		for _, other := range []struct{ from, nonce string }{
			{"", "n"}, {"X", "n"}, {"x\x00", "n"}, {"\x00x", "n"}, {"xx", "n"}, {"y", "n"},
			{"x", ""}, {"x", "N"}, {"x", "n\x00"}, {"x", "\x00n"}, {"x", "nn"}, {"x", "m"},
			{"n", "x"}, {"", ""}, {"xn", ""}, {"", "xn"}, {pattern(70000), "n"}, {"x", pattern(70000)},
		} {
			wantCheck(t, j, other.from, other.nonce, epoch, c, api.ErrCookie)
		}
	}
}

// P10.3: one text cut into source and nonce at two places makes two cookies; a part's length written into the text does not help either.
func TestCuts(t *testing.T) {
	j := turned("s", "q")
	for _, text := range []string{"abc", pattern(20), strings.Repeat("\x00", 24), "a\x00\x00\x00\x00\x00\x00\x00\x01b"} {
		for i := range len(text) + 1 {
			c := j.Bake(text[:i], text[i:])
			for k := range len(text) + 1 {
				want := api.ErrCookie
				if k == i {
					want = api.OK
				}
				wantCheck(t, j, text[:k], text[k:], 2, c, want)
			}
		}
	}
}

// P10.4: two jars of one seed with the same Turns bake alike, whatever one of them is asked between; another seed, or another chance anywhere, bakes otherwise.
func TestTwoJars(t *testing.T) {
	asked, quiet, other, strayed := cookie.New("s"), cookie.New("s"), cookie.New("t"), cookie.New("s")
	strayed.Turn("1")
	asked.Turn("2")
	quiet.Turn("2")
	other.Turn("2")
	for now := uint64(2); now < 40; now++ {
		for _, epoch := range []uint64{0, now - 1, now, now + 1} {
			asked.Check("x", "n", epoch, "")
			asked.Check("x", "n", epoch, asked.Bake("x", "n"))
			asked.Bake(pattern(int(epoch)), "m")
			asked.Epoch()
		}
		c := quiet.Bake("x", "n")
		if c != asked.Bake("x", "n") || c == other.Bake("x", "n") || c == strayed.Bake("x", "n") {
			t.Fatalf("epoch %d: %x, beside %x, %x, %x", now, c, asked.Bake("x", "n"), other.Bake("x", "n"), strayed.Bake("x", "n"))
		}
		wantCheck(t, asked, "x", "n", now, c, api.OK)
		wantCheck(t, other, "x", "n", now, c, api.ErrCookie)
		wantCheck(t, strayed, "x", "n", now, c, api.ErrCookie)
		for _, j := range []*cookie.Jar{asked, quiet, other, strayed} {
			wantEpoch(t, j, now)
			j.Turn("q")
		}
	}
}

// R11: what is handed in may be written over afterwards, and no two cookies share memory.
func TestMemory(t *testing.T) {
	text := func(s string) (string, []byte) {
		b := []byte(s)
		return unsafe.String(&b[0], len(b)), b
	}
	seed, seedBytes := text("seed")
	chance, chanceBytes := text("chance")
	from, fromBytes := text("from")
	nonce, nonceBytes := text("nonce")
	j := cookie.New(seed)
	copy(seedBytes, "####")
	j.Turn(chance)
	copy(chanceBytes, "######")
	c := j.Bake(from, nonce)
	copy(fromBytes, "####")
	copy(nonceBytes, "#####")
	if want := turned("seed", "chance").Bake("from", "nonce"); c != want || j.Bake("from", "nonce") != want {
		t.Fatalf("%x, want %x", c, want)
	}
	if d := j.Bake("from", "nonce"); unsafe.StringData(c) == unsafe.StringData(d) {
		t.Fatal("two cookies lie at one place")
	}
}
