package lobby_test

import (
	"encoding/hex"
	"fmt"
	"math"
	"slices"
	"strings"
	"testing"

	"joust/api"
	"joust/lobby"
)

// pattern gives n bytes of which no two blocks are alike.
func pattern(n int) string {
	p := make([]byte, n)
	for i := range p {
		p[i] = byte(i*7 + 3)
	}
	return string(p)
}

// P12.2: no number comes twice, though sessions leave in any order; a player is the lowest free one each time, of few and of 32.
func TestNumbersAndPlayers(t *testing.T) {
	for _, sessions := range []int{1, 2, 7, 32} {
		c := config()
		c.Sessions, c.Accounts = sessions, many(64)
		l, d := begun(t, c), dice(sessions+12)
		players := map[int]uint64{}
		last := uint64(0)
		for range 3000 {
			if d.below(2*sessions) < len(players) {
				out := d.below(sessions)
				if session, there := players[out]; there {
					l.Leave(session)
					delete(players, out)
				}
				continue
			}
			x, e := l.Join("x", "n", "s", c.Accounts[d.below(64)].Name, 1)
			if e != api.OK {
				if len(players) < sessions && e != api.ErrTaken {
					t.Fatalf("Join with %d of %d: %v", len(players), sessions, e)
				}
				continue
			}
			for player := range x.Player {
				if players[player] == 0 {
					t.Fatalf("player %d is free, %+v joins", player, x)
				}
			}
			if players[x.Player] != 0 || x.Session != last+1 || l.Next() != x.Session+1 {
				t.Fatalf("%+v behind session %d, beside %v; Next %d", x, last, players, l.Next())
			}
			players[x.Player], last = x.Session, x.Session
			wantBounds(t, l, c)
		}
		if last < 100 {
			t.Errorf("%d sessions: only %d Joins", sessions, last)
		}
	}
}

// P12.3: in a session no seq is accepted twice, by whatever calls, and High never goes down; a seq that was accepted is never fresh again.
func TestAcceptedOnce(t *testing.T) {
	c := config()
	c.Rate, c.Burst = 1000, 1000
	for seed := range 20 {
		l, d := begun(t, c), dice(seed+300)
		l.Join("x", "n", "s", "ann", 1)
		accepted, high, twice := map[uint64]bool{}, uint64(0), 0
		for step := range 2000 {
			seq := max(high, 70) - 70 + uint64(d.below(82))
			e := l.Accept(1, seq, d.below(3) > 0, uint64(step))
			if e == api.OK && accepted[seq] {
				t.Fatalf("seed %d, step %d: seq %d is accepted twice", seed, step, seq)
			}
			if accepted[seq] {
				twice++
			}
			now := live(t, l, 1).High
			if now < high || e == api.OK && now != max(high, seq) || e != api.OK && now != high {
				t.Fatalf("seed %d, step %d: High %d behind %d, seq %d: %v", seed, step, now, high, seq, e)
			}
			if high = now; e == api.OK {
				accepted[seq] = true
			}
			if e := l.Check(1, seq); accepted[seq] && e != api.ErrSeen && e != api.ErrOld {
				t.Fatalf("seed %d, step %d: seq %d was accepted, Check %v", seed, step, seq, e)
			}
			if d.below(20) == 0 {
				l.Refill()
			}
		}
		if len(accepted) < 300 || twice < 300 {
			t.Errorf("seed %d tries too little: %d accepted, %d came again", seed, len(accepted), twice)
		}
	}
}

// wantRate holds every row of steps against the bound: a step is a Refill, or an Accept of a command, OK or not.
func wantRate(t *testing.T, c api.Config, steps []string) {
	t.Helper()
	for from := range steps {
		refills, commands := 0, 0
		for to, step := range steps[from:] {
			switch step {
			case "refill":
				refills++
			case "command":
				commands++
			}
			if bound := c.Burst + c.Rate*refills/16; commands > bound {
				t.Fatalf("Burst %d, Rate %d: %d commands are accepted in steps %d to %d with %d Refills, the bound is %d", c.Burst, c.Rate, commands, from, from+to, refills, bound)
			}
		}
	}
}

// P12.3: commands that are accepted in any row of calls are within the bound, with few commands for a Refill and many, with byes and refused ones between; another session's take nothing.
func TestCommandsInRate(t *testing.T) {
	for _, burst := range []int{1, 2, 3, 10} {
		for _, rate := range []int{0, 1, 7, 8, 15, 16, 17, 40, 1000} {
			for _, many := range []int{1, 3, 12} {
				c := config()
				c.Burst, c.Rate = burst, rate
				l, d := begun(t, c), dice(burst+100*rate+many)
				l.Join("x", "n", "s", "ann", 1)
				l.Join("y", "n", "s", "bob", 1)
				var steps []string
				seq, accepted := uint64(0), 0
				for range 300 {
					switch n := d.below(many + 4); n {
					case 0:
						l.Refill()
						steps = append(steps, "refill")
					case 1:
						l.Accept(2, live(t, l, 2).High+1, true, 1)
					case 2:
						l.Accept(1, seq, true, 1)
					case 3:
						seq++
						wantAccept(t, l, 1, seq, false, 1, api.OK)
					default:
						if l.Accept(1, seq+1, true, 1) == api.OK {
							seq++
							accepted++
							steps = append(steps, "command")
						}
					}
				}
				wantRate(t, c, steps)
				if accepted < burst {
					t.Errorf("Burst %d, Rate %d: only %d commands", burst, rate, accepted)
				}
			}
		}
	}
}

// P12.3: whoever takes each token as it comes has just the bound: no token is lost while the bucket is not full.
func TestTheBoundIsReached(t *testing.T) {
	for _, rate := range []int{0, 1, 3, 8, 15, 16, 17, 32, 100, 999, 1000} {
		for _, burst := range []int{70, 1000} {
			c := config()
			c.Rate, c.Burst = rate, burst
			l := begun(t, c)
			l.Join("x", "n", "s", "ann", 1)
			accepted := 0
			for refills := range 100 {
				for l.Token(1) && !t.Failed() {
					accepted++
					wantAccept(t, l, 1, uint64(accepted), true, 1, api.OK)
				}
				wantAccept(t, l, 1, uint64(accepted+1), true, 1, api.ErrRate)
				if accepted != burst+rate*refills/16 {
					t.Fatalf("Burst %d, Rate %d, %d Refills: %d commands", burst, rate, refills, accepted)
				}
				l.Refill()
			}
		}
	}
}

// P12.3: Rate 0: a session has Burst commands in all, and its account's next session as many again.
func TestRateZero(t *testing.T) {
	c := config()
	c.Rate, c.Burst = 0, 3
	l := begun(t, c)
	for session := uint64(1); session <= 3; session++ {
		wantJoin(t, l, "x", "ann", 1, api.Live{Session: session, Name: "ann", From: "x", Heard: 1}, api.OK)
		for seq := uint64(1); seq <= 10; seq++ {
			want := api.OK
			if seq > 3 {
				want = api.ErrRate
			}
			wantAccept(t, l, session, seq, true, 1, want)
			l.Refill()
			if l.Token(session) != (seq < 3) {
				t.Errorf("Token %v behind %d commands", l.Token(session), seq)
			}
		}
		l.Leave(session)
	}
}

// P12.4: keys that were made by another program: of nonces and salts of any length, secrets of any bytes, and numbers of one, two and three bytes.
func TestKnownKeys(t *testing.T) {
	for _, x := range []struct {
		secret, nonce, salt string
		session             uint64
		want                string
	}{
		{secret("a"), "n", "s", 1, "2b8fd36f62a4f25f89ce94d25d62fc345460fe934af0f3639d90320a02ff7c4f"},
		{secret("b"), "", "", 2, "c367e453ca2a8e950c91131c7c6f3f1a7eb9e7f706a952eda61dac3b3c1c32fe"},
		{pattern(32), pattern(16), pattern(17), 3, "657ebfbbf2f6396bf986cb19527ec50cf6480ea58b3689191ee6cac94958aa4e"},
		{secret("\x00"), strings.Repeat("\x00", 8), pattern(70000), 300, "46dddacf3eadd43d498950407cd48838de60179c339ca93b8649d08ce9f5c8b6"},
		{secret("a"), "n", "s", 66051, "c145312850182ff4acbceaa25818511d7495c35c57ac56c1ecc7eb2591f8703d"},
	} {
		c := config()
		c.Accounts[1].Secret = x.secret
		l := begun(t, c)
		for session := uint64(1); session < x.session; session++ {
			l.Join("x", "", "", "bob", 0)
			l.Leave(session)
		}
		if got, e := l.Join("x", x.nonce, x.salt, "bob", 0); got.Session != x.session || e != api.OK {
			t.Fatalf("Join number %d: %+v, %v", x.session, got, e)
		}
		if key, ok := l.Key(x.session); hex.EncodeToString([]byte(key)) != x.want || !ok {
			t.Errorf("the key of session %d is %x, want %s", x.session, key, x.want)
		}
	}
}

// P12.4: a key stays what it was as long as its session lives, by whatever calls, of it and of others.
func TestKeysStay(t *testing.T) {
	c := config()
	c.Sessions, c.Accounts = 5, many(8)
	for seed := range 20 {
		l := begun(t, c)
		d := &player{dice: dice(seed + 5000), plain: plainOf(c)}
		keys := map[uint64]string{}
		for step := range 300 {
			what, call := d.call()
			call(d.plain)
			call(l)
			for _, x := range l.Lives() {
				key, ok := l.Key(x.Session)
				if was, old := keys[x.Session]; !ok || len(key) != 32 || old && was != key {
					t.Fatalf("seed %d, step %d, %s: the key of session %d is %x, %v; it was %x", seed, step, what, x.Session, key, ok, was)
				}
				keys[x.Session] = key
			}
		}
	}
}

// P12.4: two sessions of one account have keys of different texts, though nonce and salt be the same; and so have two accounts' sessions, and sessions whose nonce and salt are cut elsewhere.
func TestKeysDiffer(t *testing.T) {
	c := config()
	c.Sessions, c.Accounts[2].Secret = 3, secret("a")
	l := begun(t, c)
	seen := map[string]string{}
	for round := range 100 {
		nonce, salt := "nonce", "salt"
		if round%2 == 1 {
			nonce, salt = "nonces", "alt"
		}
		for _, name := range []string{"ann", "bob", "cy"} {
			x, _ := l.Join("x", nonce, salt, name, 0)
			key, _ := l.Key(x.Session)
			what := fmt.Sprintf("%s's session %d", name, x.Session)
			if other, there := seen[key]; there || key == "" {
				t.Fatalf("%s has the key of %q", what, other)
			}
			seen[key] = what
		}
		for _, x := range l.Lives() {
			l.Leave(x.Session)
		}
	}
	one, other := begun(t, c), begun(t, c)
	one.Join("x", "ab", "c", "ann", 0)
	other.Join("x", "a", "bc", "ann", 0)
	a, _ := one.Key(1)
	b, _ := other.Key(1)
	if a == b {
		t.Error("one text cut into nonce and salt at two places makes one key")
	}
}

// P12.4: the key hangs on no other thing: neither on source, tick, spelling and player nor on the other fields.
func TestWhatKeysHangOn(t *testing.T) {
	c := config()
	l := begun(t, c)
	l.Join("x", "n", "s", "ann", 7)
	want, _ := l.Key(1)
	c.Rate, c.Burst, c.Idle, c.Sessions, c.Seed = 0, 9, 99, 32, secret("s")
	slices.Reverse(c.Accounts)
	other := begun(t, c)
	other.Join("another", "n", "s", "ANN", math.MaxUint64)
	wantKey(t, other, 1, want, true)
}

// P12.5: what one session is asked and does is answered alike with and without the calls of another.
func TestApart(t *testing.T) {
	c := config()
	c.Idle, c.Rate = 8, 6
	for seed := range 300 {
		with, without := begun(t, c), begun(t, c)
		with.Join("x", "n", "s", "ann", 0)
		without.Join("x", "n", "s", "ann", 0)
		if seed%2 == 0 {
			without.Join("y", "n", "s", "bob", 0)
		}
		d := dice(seed + 900)
		for step := range 200 {
			number, seq, tick := d.below(10), uint64(d.below(step+1)), uint64(step/4)
			got, want := askAnn(with, number, seq, tick), askAnn(without, number, seq, tick)
			if got != want {
				t.Fatalf("seed %d, step %d: ann's call %d answers %s beside bob, %s alone", seed, step, number, got, want)
			}
			for range d.below(4) {
				doBob(with, &d, uint64(step/4))
			}
		}
	}
}

// askAnn does one of the calls of session 1, or one for all sessions, of which it tells what is session 1's.
func askAnn(l *lobby.Lobby, number int, seq, tick uint64) string {
	switch number {
	case 0, 1, 2:
		return fmt.Sprint(l.Accept(1, seq, number > 0, tick))
	case 3:
		l.Refill()
		return ""
	case 4:
		left := l.Expire(tick)
		return fmt.Sprint(slices.DeleteFunc(left, func(x api.Live) bool { return x.Session != 1 }))
	case 5:
		return fmt.Sprint(l.Sent(1))
	case 6:
		return fmt.Sprint(l.Key(1))
	case 7:
		return fmt.Sprint(l.Check(1, seq), l.Token(1))
	case 8:
		return fmt.Sprint(slices.DeleteFunc(l.Lives(), func(x api.Live) bool { return x.Session != 1 }))
	}
	x, e := l.Find(1, "x")
	return fmt.Sprint(x, e)
}

// doBob does one of the calls of bob's session, that lives or comes.
func doBob(l *lobby.Lobby, d *dice, tick uint64) {
	session := l.Next() - 1
	if session == 1 {
		session = 2
	}
	switch d.below(10) {
	case 0, 1:
		l.Join("y", d.text(), d.text(), "bob", tick)
	case 2:
		l.Leave(session)
	case 3:
		l.Sent(session)
	case 4:
		l.Find(session, "x")
		l.Check(session, 1)
		l.Token(session)
		l.Key(session)
		l.Lives()
	default:
		l.Accept(session, uint64(d.below(100)), d.below(4) > 0, tick)
	}
}

// P12.5: two lobbies have nothing to do with each other.
func TestLobbiesApart(t *testing.T) {
	c := config()
	l, other := begun(t, c), begun(t, c)
	l.Join("x", "n", "s", "ann", 7)
	l.Accept(1, 3, true, 8)
	l.Sent(1)
	if len(other.Lives()) != 0 || other.Next() != 1 || other.Token(1) {
		t.Errorf("the other lobby tells %s", told(other))
	}
	wantJoin(t, other, "y", "Ann", 1, api.Live{Session: 1, Name: "Ann", From: "y", Heard: 1}, api.OK)
	ahead := told(other)
	l.Accept(1, 4, true, 9)
	l.Leave(1)
	l.Expire(math.MaxUint64)
	l.Refill()
	if behind := told(other); behind != ahead {
		t.Errorf("the other lobby tells %s, then %s", ahead, behind)
	}
}
