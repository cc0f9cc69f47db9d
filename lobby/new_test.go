package lobby_test

import (
	"fmt"
	"math"
	"slices"
	"strings"
	"testing"

	"joust/api"
	"joust/lobby"
)

// many are so many accounts whose names are not one.
func many(n int) []api.Account {
	var list []api.Account
	for i := range n {
		list = append(list, api.Account{Name: fmt.Sprint("player", i), Secret: fmt.Sprintf("%032d", i)})
	}
	return list
}

func wantRefused(t *testing.T, what string, c api.Config) {
	t.Helper()
	if l, e := lobby.New(c); l != nil || e != api.ErrConfig {
		t.Errorf("New of %s: %v, none is %v; want none and ErrConfig", what, e, l == nil)
	}
}

// wantEmpty asks for a lobby without sessions.
func wantEmpty(t *testing.T, what string, c api.Config) *lobby.Lobby {
	t.Helper()
	l, e := lobby.New(c)
	if l == nil || e != api.OK {
		t.Fatalf("New of %s: %v", what, e)
	}
	if l.Next() != 1 || len(l.Lives()) != 0 || len(l.Expire(math.MaxUint64)) != 0 {
		t.Errorf("New of %s has sessions", what)
	}
	return l
}

// fields of a configuration that have limits.
func fields() []struct {
	name      string
	of        func(c *api.Config) *int
	low, high int
} {
	return []struct {
		name      string
		of        func(c *api.Config) *int
		low, high int
	}{
		{"Sessions", func(c *api.Config) *int { return &c.Sessions }, 1, 32},
		{"Rate", func(c *api.Config) *int { return &c.Rate }, 0, 1000},
		{"Burst", func(c *api.Config) *int { return &c.Burst }, 1, 1000},
		{"Idle", func(c *api.Config) *int { return &c.Idle }, 1, 100000},
	}
}

// P12.1: every field at its limits, within, just beyond, far beyond, and at numbers whose low bits alone would do.
func TestNewOfEveryField(t *testing.T) {
	for _, f := range fields() {
		try := func(n int) (string, api.Config) {
			c := config()
			*f.of(&c) = n
			return fmt.Sprint(f.name, " ", n), c
		}
		for _, n := range []int{f.low, f.low + 1, (f.low + f.high) / 2, f.high - 1, f.high} {
			what, c := try(n)
			wantEmpty(t, what, c)
		}
		for _, n := range []int{f.low - 1, f.low - 2, f.high + 1, f.high + 2, 2 * f.high, -f.high, 100001, 1 << 31, 1<<32 + f.high, 1<<32 + 1, -1 << 32, 1<<62 + 1, math.MaxInt, math.MinInt, math.MinInt + 1} {
			what, c := try(n)
			wantRefused(t, what, c)
		}
	}
}

// P12.1: two fields that may not be are no better than one.
func TestNewOfTwoWrongFields(t *testing.T) {
	for _, f := range fields() {
		for _, g := range fields() {
			for _, n := range []int{f.low - 1, f.high + 1} {
				for _, m := range []int{g.low - 1, g.high + 1} {
					c := config()
					*f.of(&c), *g.of(&c) = n, m
					wantRefused(t, fmt.Sprint(f.name, " ", n, ", ", g.name, " ", m), c)
				}
			}
		}
	}
}

// P12.1: what the limits' ends mean for the sessions.
func TestNewAtTheLimits(t *testing.T) {
	for _, n := range []int{1, 2, 31, 32} {
		c := config()
		c.Sessions, c.Accounts = n, many(64)
		l := begun(t, c)
		for i := range n {
			name := c.Accounts[i].Name
			wantJoin(t, l, "x", name, 1, api.Live{Session: uint64(i + 1), Player: i, Name: name, From: "x", Heard: 1}, api.OK)
		}
		wantJoin(t, l, "x", c.Accounts[n].Name, 1, api.Live{}, api.ErrFull)
		wantJoin(t, l, "x", c.Accounts[n-1].Name, 1, api.Live{}, api.ErrTaken)
		l.Leave(uint64(n))
		wantJoin(t, l, "x", c.Accounts[n].Name, 1, api.Live{Session: uint64(n + 1), Player: n - 1, Name: c.Accounts[n].Name, From: "x", Heard: 1}, api.OK)
	}
	for _, burst := range []int{1, 2, 999, 1000} {
		for _, rate := range []int{0, 1, 16, 1000} {
			c := config()
			c.Burst, c.Rate = burst, rate
			l := begun(t, c)
			l.Join("x", "n", "s", "ann", 1)
			seq := uint64(0)
			for rounds, want := range []int{burst, min(burst, rate), min(burst, 2*rate)} {
				for range 16 * rounds {
					l.Refill()
				}
				got := 0
				for got <= burst && l.Accept(1, seq+1, true, 1) == api.OK {
					seq++
					got++
				}
				if got != want {
					t.Errorf("Burst %d, Rate %d, %d Refills: %d commands, want %d", burst, rate, 16*rounds, got, want)
				}
			}
		}
	}
}

// P12.1: how many accounts there may be, none among them; each is found by its own name.
func TestNewOfManyAccounts(t *testing.T) {
	for _, n := range []int{0, 1, 2, 63, 64} {
		c := config()
		c.Accounts = many(n)
		l := wantEmpty(t, fmt.Sprint(n, " accounts"), c)
		for _, a := range c.Accounts {
			wantSecret(t, l, a.Name, a.Secret, true)
			wantSecret(t, l, strings.ToUpper(a.Name), a.Secret, true)
		}
		wantSecret(t, l, fmt.Sprint("player", n), "", false)
	}
	for _, n := range []int{65, 66, 128, 1000, 100000} {
		c := config()
		c.Accounts = many(n)
		wantRefused(t, fmt.Sprint(n, " accounts"), c)
	}
	c := config()
	c.Accounts = []api.Account{}
	wantJoin(t, wantEmpty(t, "an empty list of accounts", c), "x", "ann", 1, api.Live{}, api.ErrAccount)
}

// wantRefusedAt asks for a refusal of an account at the first, a middle and the last place of few and of 64.
func wantRefusedAt(t *testing.T, wrong api.Account) {
	t.Helper()
	for _, n := range []int{1, 3, 64} {
		for _, at := range []int{0, n / 2, n - 1} {
			c := config()
			c.Accounts = many(n)
			c.Accounts[at] = wrong
			wantRefused(t, fmt.Sprintf("the account %.50q at place %d of %d", wrong, at, n), c)
		}
	}
}

// P12.1: names that are none, and names at the edges that are.
func TestNewOfNames(t *testing.T) {
	for _, none := range []string{"", " ", "a b", "ann ", "\x00", "ann\n", "thirteenchars", strings.Repeat("é", 13), "×", "÷", "a\xc3", "\xff", "\ufffd", "Σ", "Α", "ο\u0301", "\u017f", "\u212a", "ann!", "a.b", "\u00bf", "\u0100", "\u03b0", "\u03ca", strings.Repeat("a", 25), strings.Repeat("a", 1<<20)} {
		wantRefusedAt(t, api.Account{Name: none, Secret: secret("n")})
	}
	for _, name := range []string{"a", "Z", "0", "9", "_", "-", "twelve-chars", strings.Repeat("é", 12), strings.Repeat("ω", 12), "À", "ÿ", "ß", "Ö", "Ø", "ö", "ø", "α", "ω"} {
		c := config()
		c.Accounts = append(c.Accounts, api.Account{Name: name, Secret: secret("n")})
		wantSecret(t, wantEmpty(t, "the name "+name, c), name, secret("n"), true)
	}
}

// P12.1: secrets of all other lengths are none, counted in bytes; any 32 bytes are one.
func TestNewOfSecrets(t *testing.T) {
	for n := range 100 {
		if n != 32 {
			wantRefusedAt(t, api.Account{Name: "ann", Secret: strings.Repeat("a", n)})
		}
	}
	for _, n := range []int{256 + 32, 65536 + 32, 1 << 20} {
		wantRefusedAt(t, api.Account{Name: "ann", Secret: strings.Repeat("a", n)})
	}
	wantRefusedAt(t, api.Account{Name: "ann", Secret: strings.Repeat("é", 32)})
	for _, s := range []string{secret("\x00"), secret("\xff"), strings.Repeat("é", 16), secret(" "), strings.Repeat("\x00a", 16)} {
		c := config()
		c.Accounts[1].Secret = s
		wantSecret(t, wantEmpty(t, fmt.Sprintf("the secret %q", s), c), "bob", s, true)
	}
}

// P12.1: two names that are one, next to each other and far apart; names that only look alike are two; secrets may be one.
func TestNewOfNamesThatAreOne(t *testing.T) {
	for _, one := range [][2]string{{"ann", "ann"}, {"ann", "Ann"}, {"ANN", "ann"}, {"aNn", "AnN"}, {"É", "é"}, {"ÀÞ", "àþ"}, {"Ötzi_9", "öTZI_9"}, {"α", "α"}, {"z", "Z"}} {
		for _, n := range []int{2, 3, 64} {
			for _, places := range [][2]int{{0, 1}, {0, n - 1}, {n - 2, n - 1}, {n - 1, 0}} {
				c := config()
				c.Accounts = many(n)
				c.Accounts[places[0]].Name, c.Accounts[places[1]].Name = one[0], one[1]
				wantRefused(t, fmt.Sprintf("%q at places %d of %d", one, places, n), c)
			}
		}
	}
	c := config()
	c.Accounts = nil
	for i, name := range []string{"ann", "an", "anna", "ann_", "ann-", "nna", "e", "é", "è", "s", "ss", "ß", "o", "0", "ö", "ø", "ο", "ÿ", "y", "σ", "ς", "_", "-"} {
		c.Accounts = append(c.Accounts, api.Account{Name: name, Secret: fmt.Sprintf("%032d", i/2)})
	}
	l := wantEmpty(t, "names that look alike", c)
	for _, a := range c.Accounts {
		wantSecret(t, l, a.Name, a.Secret, true)
	}
}

// P12.1: no other field is looked at, be it what it may.
func TestNewLooksAtNoOtherField(t *testing.T) {
	for _, n := range []int{math.MinInt, -1, 0, 1, 1 << 40, math.MaxInt} {
		for _, text := range []string{"", "none", "\xff", strings.Repeat("#", 5000)} {
			c := config()
			c.Output, c.SourceRate, c.SourceBurst, c.Life, c.Radius, c.Show = n, n, n, n, n, n
			c.Seed, c.Board = text, text
			l, plain := wantEmpty(t, fmt.Sprintf("others %d, %.9q", n, text), c), begun(t, config())
			for _, x := range []*lobby.Lobby{l, plain} {
				x.Join("x", "n", "s", "ann", 7)
				x.Join("y", "n", "s", "bob", 9)
				x.Accept(2, 3, true, 10)
				x.Expire(11)
			}
			k, _ := l.Key(2)
			wantKey(t, plain, 2, k, true)
			if !slices.Equal(l.Lives(), plain.Lives()) {
				t.Errorf("others %d, %.9q: %+v", n, text, l.Lives())
			}
		}
	}
}
