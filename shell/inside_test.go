package shell

import (
	"reflect"
	"slices"
	"strings"
	"testing"

	"joust/api"
	"joust/mac"
)

// begun is a shell with a server.
func begun(t *testing.T, lines string) *Shell {
	t.Helper()
	s := New()
	for line := range strings.SplitSeq("row ###; row #S#; row ###; account ann; account bob; "+lines+"; open", "; ") {
		s.Do(line)
	}
	if s.match == nil {
		t.Fatal("no server")
	}
	return s
}

func wantLine(t *testing.T, s *Shell, line string, told ...string) {
	t.Helper()
	if got := s.Do(line); !slices.Equal(got, told) {
		t.Errorf("%q tells %q, want %q", line, got, told)
	}
}

// New: the configuration of the chapter. No line lets so many datagrams wait that Output 64 would be seen.
func TestUsual(t *testing.T) {
	want := api.Config{Sessions: 4, Output: 64, Rate: 16, Burst: 4, SourceRate: 4, SourceBurst: 4, Idle: 20, Life: 30, Radius: 40, Show: 8, Seed: mac.Tag("seed", "")}
	s := New()
	if len(s.config.Accounts) != 0 || !reflect.DeepEqual(s.config, want) || len(s.rows) != 0 || s.match != nil {
		t.Errorf("%+v", s)
	}
}

// Hard place: where the queue has no room for the cookie, join is ErrState, for nothing was refused. No line leaves a queue full, so another hand fills it here.
func TestJoinWithoutRoom(t *testing.T) {
	s := begun(t, "set output 2")
	hello := "J01\x01" + strings.Repeat("\x00", 92)
	for range 3 {
		s.match.server.Do(api.Event{Kind: api.EvData, From: "x", Data: hello})
	}
	wantLine(t, s, "join ann a:1", "error 240")
	wantLine(t, s, "counts", "hellos 4 accepted 0 refused 0 dropped 2 ignored 0")
	wantLine(t, s, "drive ann 1 1", "error 240")
	// What ann sent last is its hello. It is answered now, and ann connects.
	wantLine(t, s, "again ann a:1", "ok")
	wantLine(t, s, "lives", "session 1 player 0 ann from a:1 heard 0 high 0 sent 0")
	wantLine(t, s, "again ann a:1", "error 121")
	wantLine(t, s, "drive ann 1 1", "ok")
}

// What again tells is of the datagram that it sends: a hello is not refused, though the connect that comes of it is. A hello from another source than its client's is nobody's.
func TestAgainHello(t *testing.T) {
	s := begun(t, "set output 1")
	s.match.server.Do(api.Event{Kind: api.EvData, From: "x", Data: "J01\x01" + strings.Repeat("\x00", 92)})
	wantLine(t, s, "join zoe z:1", "error 240")
	wantLine(t, s, "again zoe y:1", "ok")
	wantLine(t, s, "counts", "hellos 3 accepted 0 refused 0 dropped 1 ignored 0")
	wantLine(t, s, "again zoe z:1", "ok")
	wantLine(t, s, "counts", "hellos 4 accepted 0 refused 1 dropped 1 ignored 0")
	wantLine(t, s, "again zoe z:1", "error 120")
}

// again of a client that sent nothing is ErrState.
func TestAgainNothing(t *testing.T) {
	s := begun(t, "set show 1")
	s.match.seat(&driver{name: "ann"})
	wantLine(t, s, "again ann a:1", "error 240")
	wantLine(t, s, "again bob a:1", "error 60")
	wantLine(t, s, "counts", "hellos 0 accepted 0 refused 0 dropped 0 ignored 0")
}

// What judge would tell of a ledger that no server has written; no line makes one.
func TestFinding(t *testing.T) {
	if got := findingLine(api.Finding{Entry: 12, Code: api.ErrTag}); got != "entry 12 error 124" {
		t.Errorf("%q", got)
	}
	s := begun(t, "set show 1")
	wantLine(t, s, "join ann a:1", "ann session 1 player 0")
	wantLine(t, s, "drive ann 1 1", "ok")
	s.match.keys[0] = strings.Repeat("x", 32)
	wantLine(t, s, "judge", "entry 1 error 124")
	s.match.keys = nil
	wantLine(t, s, "judge", "entry 1 error 122")
}

// Keys are told of sessions that there were, alone.
func TestKey(t *testing.T) {
	m := &match{keys: []string{"one", "two"}}
	for number, key := range map[uint64]string{0: "", 1: "one", 2: "two", 3: "", 1 << 63: "", 1<<64 - 1: ""} {
		if got, ok := m.key(number); got != key || ok != (key != "") {
			t.Errorf("%d: %q, %v", number, got, ok)
		}
	}
}

// digits are those of any number of the kinds that are told.
func TestDigits(t *testing.T) {
	for got, want := range map[string]string{
		digits(0): "0", digits(-7): "-7", digits(int64(-1 << 63)): "-9223372036854775808", digits(int64(1<<63 - 1)): "9223372036854775807", digits(uint64(1<<64 - 1)): "18446744073709551615",
	} {
		if got != want {
			t.Errorf("%q, want %q", got, want)
		}
	}
}

// A client's seat: its own name's, else behind all.
func TestSeat(t *testing.T) {
	m := &match{}
	for _, name := range []string{"ann", "bob", "ANN", "bob", "cy", "ann"} {
		m.seat(&driver{name: name, source: name + "'s"})
	}
	var names []string
	for _, d := range m.drivers {
		names = append(names, d.name)
	}
	if !slices.Equal(names, []string{"ann", "bob", "ANN", "cy"}) {
		t.Errorf("%q", names)
	}
}
