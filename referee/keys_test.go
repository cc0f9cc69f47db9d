package referee_test

import (
	"slices"
	"testing"

	"joust/api"
	"joust/referee"
)

// asked tells of which sessions keys is asked while a ledger is judged, in order.
func asked(c api.Config, l []api.Entry, tells func(uint64) (string, bool)) ([]uint64, api.Finding) {
	var numbers []uint64
	f, _ := referee.Judge(c, func(n uint64) (string, bool) {
		numbers = append(numbers, n)
		return tells(n)
	}, l)
	return slices.Compact(numbers), f
}

func wantAsked(t *testing.T, l []api.Entry, want ...uint64) {
	t.Helper()
	if got, _ := asked(wide(), l, keys); !slices.Equal(got, want) {
		t.Errorf("keys is asked of %v, want %v", got, want)
	}
}

// Hard place: keys is asked for commands and byes alone, once the session is known to live.
func TestKeysAsked(t *testing.T) {
	one, two := join(1, 0, "ann"), join(2, 1, "bob")
	wantAsked(t, nil)
	wantAsked(t, ledger(one, two, ticks(3), idle(one), idle(two), tick()))
	wantAsked(t, ledger(one, two, command(two, 1), command(one, 1), tick(), bye(two, 2)), 2, 1, 2)
	for _, x := range []api.Entry{command(one, 1), bye(one, 1), {Kind: 9}, idle(one)} {
		wantAsked(t, ledger(x))
		wantAsked(t, ledger(two, x))
		wantAsked(t, ledger(one, ticks(3), idle(one), tick(), x))
	}
	// What is at fault by its form, or its place, is not looked up.
	other, late, unlike := command(one, 1), command(one, 1), bye(one, 1)
	other.Seq, late.Tick, unlike.Kind = 2, 1, api.LbCommand
	wantAsked(t, ledger(one, other))
	wantAsked(t, []api.Entry{one, late})
	wantAsked(t, ledger(one, unlike))
	wantAsked(t, ledger(one, tick(), two, ticks(2), idle(one), command(two, 1)))
	// From is judged behind the key.
	stranger := command(one, 1)
	stranger.From = "another"
	wantAsked(t, ledger(one, stranger), 1)
}

// Nobody is asked behind the first fault.
func TestKeysBehindFault(t *testing.T) {
	one, two := join(1, 0, "ann"), join(2, 1, "bob")
	wantAsked(t, ledger(one, two, command(one, 1), command(one, 2), command(two, 1)), 1)
	wantAsked(t, ledger(one, two, join(3, 5, "carl"), command(two, 1)))
}

// 27.1: without a key a command and a bye are ErrSession, whatever text comes with it; a leave by idleness and others' entries need none.
func TestKeysNone(t *testing.T) {
	one, two := join(1, 0, "ann"), join(2, 1, "bob")
	but := func(n uint64) (string, bool) { return keyOf(n), n != 1 }
	for _, x := range []api.Entry{command(one, 1), bye(one, 1)} {
		l := ledger(one, two, command(two, 1), ticks(2), x)
		if _, f := asked(wide(), l, but); f != (api.Finding{Entry: len(l) - 1, Code: api.ErrSession}) {
			t.Errorf("%+v", f)
		}
	}
	if _, f := asked(wide(), ledger(one, two, ticks(1), command(two, 1), ticks(2), idle(one), tick()), but); f != (api.Finding{}) {
		t.Errorf("%+v", f)
	}
}

// 27.1: a key may be any text.
func TestKeysAny(t *testing.T) {
	j := join(1, 0, "ann")
	for _, key := range []string{"", "k", rep("k", 31), rep("k", 64), rep("k", 65), rep("\xff", 1000)} {
		tells := func(uint64) (string, bool) { return key, true }
		said := of(j, api.LbCommand, 1, commandOf(1, 1, key))
		if _, f := asked(wide(), ledger(j, said), tells); f != (api.Finding{}) {
			t.Errorf("%+v", f)
		}
		if _, f := asked(wide(), ledger(j, command(j, 1)), tells); f != (api.Finding{Entry: 1, Code: api.ErrTag}) {
			t.Errorf("%+v", f)
		}
	}
}
