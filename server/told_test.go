package server_test

import (
	"fmt"
	"slices"
	"testing"

	"joust/api"
	"joust/rule"
	"joust/server"
)

// servers are what a server and a plain one can be asked alike.
type servers interface {
	Do(e api.Event) ([]api.Out, api.Errno)
	State() api.State
	Ledger() []api.Entry
	Lives() []api.Live
	Key(session uint64) (string, bool)
	Waiting() []api.Out
	Counts() api.Counts
	Epoch() uint64
}

var (
	_ servers = (*server.Server)(nil)
	_ servers = (*plain)(nil)
)

// told is all that a server tells.
type told struct {
	state   api.State
	ledger  []api.Entry
	lives   []api.Live
	keys    []string
	waiting []api.Out
	counts  api.Counts
	epoch   uint64
}

func tell(s servers) told {
	x := told{state: s.State(), ledger: s.Ledger(), lives: s.Lives(), waiting: s.Waiting(), counts: s.Counts(), epoch: s.Epoch()}
	for _, l := range x.lives {
		key, _ := s.Key(l.Session)
		x.keys = append(x.keys, key)
	}
	return x
}

// differs names the first thing that is told otherwise, or nothing.
func (a told) differs(b told) string {
	switch {
	case a.counts != b.counts:
		return fmt.Sprintf("counts %+v, want %+v", a.counts, b.counts)
	case a.epoch != b.epoch:
		return fmt.Sprintf("epoch %d, want %d", a.epoch, b.epoch)
	case !slices.Equal(a.lives, b.lives):
		return fmt.Sprintf("lives %+v, want %+v", a.lives, b.lives)
	case !slices.Equal(a.keys, b.keys):
		return "other keys"
	case !slices.Equal(a.waiting, b.waiting):
		return fmt.Sprintf("waiting %q, want %q", a.waiting, b.waiting)
	case !slices.Equal(a.ledger, b.ledger):
		return fmt.Sprintf("ledger %+v, want %+v", a.ledger, b.ledger)
	case !rule.Equal(a.state, b.state):
		return fmt.Sprintf("state %+v, want %+v", a.state, b.state)
	}
	return ""
}

func wantTold(t *testing.T, what string, s servers, want told) {
	t.Helper()
	if x := tell(s).differs(want); x != "" {
		t.Fatalf("%s: %s", what, x)
	}
}

// wantDo asks two servers for one answer to one event, and for the same tale behind it.
func wantDo(t *testing.T, what string, s, other servers, e api.Event) api.Errno {
	t.Helper()
	out, got := s.Do(e)
	wantOut, want := other.Do(e)
	if got != want || !slices.Equal(out, wantOut) {
		t.Fatalf("%s: Do(%+v): %q, %v, want %q, %v", what, e, out, got, wantOut, want)
	}
	wantTold(t, what, s, tell(other))
	return got
}
