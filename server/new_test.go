package server_test

import (
	"math"
	"slices"
	"strconv"
	"testing"

	"joust/api"
	"joust/server"
)

func wantNew(t *testing.T, what any, c api.Config, want api.Errno) {
	t.Helper()
	if s, e := server.New(c); e != want || (s == nil) != (want != api.OK) {
		t.Errorf("%v: New: %v, %v, want %v", what, s != nil, e, want)
	}
	if out, e := server.Run(c, []api.Event{{Kind: api.EvData, From: "x", Data: hello(nonce)}, {Kind: api.EvTake, N: 1}}); e != want || (len(out) == 1) != (want == api.OK) {
		t.Errorf("%v: Run: %q, %v, want %v", what, out, e, want)
	}
}

// limits of a configuration's numbers: section 'Functions', New.
var limits = []struct {
	name        string
	least, most int
	lay         func(c *api.Config, n int)
}{
	{"Sessions", 1, 32, func(c *api.Config, n int) { c.Sessions = n }},
	{"Output", 1, 256, func(c *api.Config, n int) { c.Output = n }},
	{"Rate", 0, 1000, func(c *api.Config, n int) { c.Rate = n }},
	{"Burst", 1, 1000, func(c *api.Config, n int) { c.Burst = n }},
	{"SourceRate", 0, 1000, func(c *api.Config, n int) { c.SourceRate = n }},
	{"SourceBurst", 1, 1000, func(c *api.Config, n int) { c.SourceBurst = n }},
	{"Idle", 1, 100000, func(c *api.Config, n int) { c.Idle = n }},
	{"Life", 1, 100000, func(c *api.Config, n int) { c.Life = n }},
	{"Radius", 0, 1024, func(c *api.Config, n int) { c.Radius = n }},
	{"Show", 0, 32, func(c *api.Config, n int) { c.Show = n }},
	{"Seed", 32, 32, func(c *api.Config, n int) { c.Seed = rep("s", max(0, min(n, 100))) }},
	{"Secret", 32, 32, func(c *api.Config, n int) { c.Accounts[1].Secret = rep("s", max(0, min(n, 100))) }},
	{"Accounts", 0, 64, func(c *api.Config, n int) { c.Accounts = crowd(max(0, min(n, 100))) }},
}

// crowd are so many accounts.
func crowd(n int) []api.Account {
	var list []api.Account
	for i := range n {
		list = append(list, api.Account{Name: "p" + strconv.Itoa(i), Secret: rep(string(rune('a'+i%26)), 32)})
	}
	return list
}

// bad is a configuration that is wrong in one thing.
type bad struct {
	what string
	c    api.Config
}

// badConfigs are configurations, each with one thing that may not be.
func badConfigs() []bad {
	var list []bad
	for _, x := range limits {
		for _, n := range []int{x.least - 1, x.least - 2, x.most + 1, x.most + 2, math.MinInt, math.MaxInt, -1 << 32, 1<<32 + x.least} {
			c := config()
			x.lay(&c, n)
			if n < 0 && (x.name == "Seed" || x.name == "Secret") || n < x.least && x.name == "Accounts" {
				continue
			}
			list = append(list, bad{x.name + " " + strconv.Itoa(n), c})
		}
	}
	for _, wrong := range []string{"", "a b", "a\x00", "\xff", rep("a", 13), rep("\u00e4", 13), "a\u00d7", "ann", "ANN", "aNn"} {
		for i := range 3 {
			c := config()
			c.Accounts = slices.Insert(crowd(2), i, api.Account{Name: wrong, Secret: rep("s", 32)})
			c.Accounts = append(c.Accounts, api.Account{Name: "ann", Secret: rep("s", 32)})
			list = append(list, bad{"name " + wrong, c})
		}
	}
	c := config()
	c.Accounts = append(crowd(63), api.Account{Name: "P7", Secret: rep("s", 32)})
	return append(list, bad{"the last name is one of 63", c}, bad{"nothing", api.Config{Board: boards[0]}})
}

// P23.1: New takes each number at its bounds, and refuses those beyond them.
func TestNewBounds(t *testing.T) {
	for _, x := range limits {
		for _, n := range []int{x.least, min(x.least+1, x.most), max(x.most-1, x.least), x.most} {
			c := config()
			x.lay(&c, n)
			wantNew(t, x.name+" "+strconv.Itoa(n), c, api.OK)
		}
	}
	for _, x := range badConfigs() {
		wantNew(t, x.what, x.c, api.ErrConfig)
	}
}

// P23.1: the board's errors come behind all others.
func TestNewBoard(t *testing.T) {
	for text, want := range map[string]api.Errno{
		"":                             api.ErrBoard,
		"###":                          api.ErrBoard,
		"###\n#S#\n##":                 api.ErrBoard,
		"###\n#?#\n###":                api.ErrBoard,
		rep(rep("S", 65)+"\n", 65):     api.ErrBoard,
		"###\n#.#\n###":                api.ErrPlace,
		"SSS\nS.S\nSSS\n":              api.ErrPlace,
		"###\n#S#\n###":                api.OK,
		"\u2588##\n#S#\n##\u2588\n":    api.OK,
		rep(rep("S", 64)+"\n", 64):     api.OK,
		rep("#", 64) + rep("\n#S#", 1): api.ErrBoard,
	} {
		c := config()
		c.Board = text
		wantNew(t, text, c, want)
		for _, x := range badConfigs() {
			x.c.Board = text
			if s, e := server.New(x.c); s != nil || e != api.ErrConfig {
				t.Errorf("%s, and a board %q: %v", x.what, text, e)
			}
		}
	}
}

// The names and secrets of 64 accounts all count, and two names that are near are not one.
func TestNewAccounts(t *testing.T) {
	c := wide()
	c.Sessions, c.Accounts = 32, crowd(64)
	w := begin(t, c)
	for i, a := range c.Accounts {
		d := w.cookie("x")
		want := api.OK
		if i >= 32 {
			want = api.ErrFull
		}
		w.say("x", connect(d, a.Name, a.Secret), want)
		w.say("x", connect(d, a.Name, rep("?", 32)), api.ErrTag)
	}
	if l := w.Lives(); len(l) != 32 || l[31].Player != 31 || l[31].Session != 32 || l[31].Name != "p31" {
		t.Errorf("%+v", l)
	}
	c.Accounts = []api.Account{{Name: "ann", Secret: rep("a", 32)}, {Name: "anne", Secret: rep("a", 32)}, {Name: "an", Secret: rep("a", 32)}, {Name: "\u00e4nn", Secret: rep("a", 32)}}
	wantNew(t, "near names", c, api.OK)
	c.Accounts[3].Name = "\u00c4NN"
	wantNew(t, "near names", c, api.OK)
	c.Accounts[0].Name = "\u00e4nN"
	wantNew(t, "one name in other letters", c, api.ErrConfig)
}
