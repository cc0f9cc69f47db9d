package shell

import (
	"slices"

	"joust/api"
	"joust/mac"
	"joust/name"
	"joust/server"
)

// usual is the configuration that a shell begins with.
func usual() api.Config {
	return api.Config{
		Sessions:    4,
		Output:      64,
		Rate:        16,
		Burst:       4,
		SourceRate:  4,
		SourceBurst: 4,
		Idle:        20,
		Life:        30,
		Radius:      40,
		Show:        8,
		Seed:        mac.Tag("seed", ""),
	}
}

func (s *Shell) row(w *words) []string {
	s.rows = append(append(s.rows, w.rest()...), '\n')
	return nil
}

func (s *Shell) clear(w *words) []string {
	w.end()
	s.rows, s.config.Accounts = nil, nil
	return nil
}

func (s *Shell) account(w *words) []string {
	called := w.word()
	w.end()
	s.config.Accounts = append(s.config.Accounts, api.Account{Name: called, Secret: secret(called)})
	return nil
}

// set takes numbers that may not be, too: it is for open to refuse them.
func (s *Shell) set(w *words) []string {
	field, n := setting(&s.config, w.word()), w.number()
	w.end()
	*field = n
	return nil
}

func (s *Shell) seed(w *words) []string {
	word := w.word()
	w.end()
	s.config.Seed = mac.Tag("seed", word)
	return nil
}

// open begins a match. The one that was is over, also if there is no other.
func (s *Shell) open(w *words) []string {
	w.end()
	s.match = nil
	c := s.config
	c.Board, c.Accounts = string(s.rows), slices.Clone(c.Accounts)
	opened, e := server.New(c)
	allow(e)
	s.match = &match{config: c, server: opened}
	return one("open")
}

// setting gives the place of a number in a configuration.
func setting(c *api.Config, key string) *int {
	switch key {
	case "sessions":
		return &c.Sessions
	case "output":
		return &c.Output
	case "rate":
		return &c.Rate
	case "burst":
		return &c.Burst
	case "sourcerate":
		return &c.SourceRate
	case "sourceburst":
		return &c.SourceBurst
	case "idle":
		return &c.Idle
	case "life":
		return &c.Life
	case "radius":
		return &c.Radius
	case "show":
		return &c.Show
	}
	panic(api.ErrLine)
}

// secret is the one of an account.
func secret(account string) string { return mac.Tag("account", account) }

// known is the secret of whoever goes by a name. Where no account has it, it is as if one had.
func (s *Shell) known(called string) string {
	for _, a := range s.config.Accounts {
		if name.Same(a.Name, called) {
			return a.Secret
		}
	}
	return secret(called)
}
