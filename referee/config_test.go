package referee_test

import (
	"math"
	"testing"

	"joust/api"
	"joust/referee"
	"joust/server"
)

// broken are configurations that server.New refuses, by each field; some have a board that is refused, too.
func broken() []api.Config {
	var l []api.Config
	with := func(change func(c *api.Config)) {
		c := config()
		change(&c)
		l = append(l, c)
	}
	numbers := []struct {
		field       func(c *api.Config) *int
		least, most int
	}{
		{func(c *api.Config) *int { return &c.Sessions }, 1, 32}, {func(c *api.Config) *int { return &c.Output }, 1, 256},
		{func(c *api.Config) *int { return &c.Rate }, 0, 1000}, {func(c *api.Config) *int { return &c.Burst }, 1, 1000},
		{func(c *api.Config) *int { return &c.SourceRate }, 0, 1000}, {func(c *api.Config) *int { return &c.SourceBurst }, 1, 1000},
		{func(c *api.Config) *int { return &c.Idle }, 1, 100000}, {func(c *api.Config) *int { return &c.Life }, 1, 100000},
		{func(c *api.Config) *int { return &c.Radius }, 0, 1024}, {func(c *api.Config) *int { return &c.Show }, 0, 32},
	}
	for _, n := range numbers {
		for _, x := range []int{n.least - 1, n.most + 1, math.MinInt, math.MaxInt} {
			with(func(c *api.Config) { *n.field(c) = x })
			with(func(c *api.Config) { *n.field(c), c.Board = x, "x" })
		}
	}
	for _, s := range []string{"", rep("s", 31), rep("s", 33)} {
		with(func(c *api.Config) { c.Seed = s })
		with(func(c *api.Config) { c.Accounts[1].Secret = s })
	}
	for _, s := range []string{"", "ann", "ANN", "a b", rep("x", 13), "\xff"} {
		with(func(c *api.Config) { c.Accounts[1].Name = s })
	}
	with(func(c *api.Config) { c.Accounts = make([]api.Account, 65) })
	for _, s := range []string{"", "x", "###", "###\n#.#\n###", "#S#\n#.#\n###\n"} {
		with(func(c *api.Config) { c.Board = s })
	}
	return l
}

// 27.1: a configuration that may not be is at fault, with New's own error, whatever the ledger is; keys is not asked.
func TestConfig(t *testing.T) {
	met := map[api.Errno]int{}
	j := join(1, 0, "ann")
	for i, c := range broken() {
		_, want := server.New(c)
		met[want]++
		for _, l := range [][]api.Entry{nil, ledger(j, command(j, 1), tick()), ledger(command(j, 1)), {{Kind: 9}}} {
			f, is := referee.Judge(c, func(uint64) (string, bool) { t.Fatal("keys is asked"); return "", false }, l)
			if !is || f != (api.Finding{Entry: -1, Code: want}) || want == api.OK {
				t.Errorf("configuration %d: %+v, %v, want %v", i, f, is, want)
			}
		}
	}
	if met[api.ErrConfig] < 40 || met[api.ErrBoard] != 3 || met[api.ErrPlace] != 2 {
		t.Errorf("%v", met)
	}
}

// 27.1: the bounds of what the configuration says are its own.
func TestConfigBounds(t *testing.T) {
	c := wide()
	for _, idleness := range []int{1, 2, 7, 100000} {
		c.Idle = idleness
		j := join(1, 0, "ann")
		n := min(idleness, 50)
		wantWell(t, c, ledger(j, ticks(n)))
		if n == idleness {
			wantWell(t, c, ledger(j, ticks(n), idle(j), tick()))
			wantLast(t, c, ledger(j, ticks(n+1)), api.ErrLedger)
			wantLast(t, c, ledger(j, ticks(n-1), idle(j)), api.ErrLedger)
		}
	}
	c = wide()
	c.Accounts, c.Sessions, c.Idle = nil, 32, 10
	var l []api.Entry
	for i := range 33 {
		name := "p" + string(rune('0'+i/10)) + string(rune('0'+i%10))
		c.Accounts = append(c.Accounts, api.Account{Name: name, Secret: rep("?", 32)})
		l = append(l, join(uint64(i+1), i, name))
	}
	wantLast(t, c, ledger(l), api.ErrFull)
	for most := 1; most <= 32; most++ {
		c.Sessions = most
		wantWell(t, c, ledger(l[:most]))
		wantFound(t, c, ledger(l), most, api.ErrFull)
	}
}

// 27.1: without accounts nobody joins.
func TestConfigNobody(t *testing.T) {
	c := config()
	c.Accounts = nil
	wantWell(t, c, ledger(ticks(3)))
	wantLast(t, c, ledger(join(1, 0, "ann")), api.ErrAccount)
	wantLast(t, c, ledger(join(1, 0, "")), api.ErrAccount)
}

// R6: a tick brings a sixteenth of Rate tokens, never more than Burst are there, and one must be there whole.
func TestConfigRate(t *testing.T) {
	j := join(1, 0, "ann")
	for _, rate := range []int{0, 1, 5, 8, 15, 16, 17, 40, 1000} {
		for _, burst := range []int{1, 2, 5} {
			c := wide()
			c.Rate, c.Burst, c.Idle = rate, burst, 1000
			l := list(j)
			holds, seq := 16*burst, uint64(0)
			for n := range 60 {
				seq++
				if holds < 16 {
					wantLast(t, c, ledger(l, command(j, seq)), api.ErrRate)
				} else if n%7 != 3 {
					l = append(l, command(j, seq))
					holds -= 16
				}
				l = append(l, tick())
				holds = min(holds+rate, 16*burst)
			}
			wantWell(t, c, ledger(l))
		}
	}
}
