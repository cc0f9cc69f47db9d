package referee

import (
	"strconv"

	"joust/api"
	"joust/server"
)

// refusal is why a ledger is none: it wraps what is wrong with the first entry at fault.
type refusal struct {
	entry int // -1: the configuration is at fault
	cause error
}

func (r refusal) Error() string { return "entry " + strconv.Itoa(r.entry) + ": " + r.cause.Error() }

func (r refusal) Unwrap() error { return r.cause }

// judge goes through a ledger as far as all is well.
func judge(c api.Config, keys func(session uint64) (string, bool), l []api.Entry) error {
	if _, e := server.New(c); e != api.OK {
		return refusal{entry: -1, cause: e}
	}
	s := begin(c, keys)
	for i, x := range l {
		if e := s.follow(x); e != api.OK {
			return refusal{entry: i, cause: e}
		}
	}
	return nil
}
