package gate_test

import (
	"cmp"
	"math"
	"slices"
	"testing"

	"joust/api"
	"joust/gate"
)

// dice give numbers that look like chance and are the same in every run.
type dice uint64

func (d *dice) word() uint64 {
	*d ^= *d << 13
	*d ^= *d >> 7
	*d ^= *d << 17
	return uint64(*d) * 0x2545f4914f6cdd1d
}

func (d *dice) below(n int) int { return int(d.word() >> 20 % uint64(n)) }

// number is within a bound mostly, often at it or one beside it, and now and then any int.
func (d *dice) number(bound int) int {
	switch d.below(6) {
	case 0:
		return int(d.word()) >> d.below(64)
	case 1:
		return []int{math.MinInt, math.MaxInt, -bound, bound}[d.below(4)]
	case 2:
		return []int{-bound, bound}[d.below(2)] + d.below(3) - 1
	}
	return d.below(2*bound+1) - bound
}

func (d *dice) command() api.Command {
	return api.Command{Throttle: d.number(100), Turn: d.number(8), Fire: d.below(2) == 0, Boost: d.below(2) == 0}
}

// player is one of few mostly, so that one comes again, and now and then any int.
func (d *dice) player(few int) int {
	switch d.below(12) {
	case 0:
		return int(d.word()) >> d.below(64)
	case 1:
		return players[d.below(len(players))]
	}
	return d.below(few) - few/3
}

// plain is a gate as the chapter tells it: a list of intents, in the order of their offers.
type plain struct{ list []api.Intent }

func (p *plain) place(player int) int {
	return slices.IndexFunc(p.list, func(i api.Intent) bool { return i.Player == player })
}

func (p *plain) waits(player int) bool { return p.place(player) >= 0 }

func (p *plain) offer(player int, c api.Command) api.Errno {
	if p.waits(player) {
		return api.ErrExcess
	}
	i := api.Intent{Player: player, Throttle: c.Throttle, Turn: c.Turn, Fire: c.Fire, Boost: c.Boost}
	if i.Throttle > 100 {
		i.Throttle = 100
	} else if i.Throttle < -100 {
		i.Throttle = -100
	}
	if i.Turn > 8 {
		i.Turn = 8
	} else if i.Turn < -8 {
		i.Turn = -8
	}
	p.list = append(p.list, i)
	return api.OK
}

func (p *plain) drop(player int) bool {
	n := p.place(player)
	if n < 0 {
		return false
	}
	p.list = slices.Delete(p.list, n, n+1)
	return true
}

func (p *plain) take() []api.Intent {
	list := p.list
	p.list = nil
	slices.SortFunc(list, func(a, b api.Intent) int { return cmp.Compare(a.Player, b.Player) })
	return list
}

// wantLegal asks that each Player is there at most once, rising, and all is within its bounds.
func wantLegal(t *testing.T, list []api.Intent) {
	t.Helper()
	for n, i := range list {
		if n > 0 && i.Player <= list[n-1].Player {
			t.Fatalf("player %d behind %d", i.Player, list[n-1].Player)
		}
		if i.Throttle < -100 || i.Throttle > 100 || i.Turn < -8 || i.Turn > 8 {
			t.Fatalf("not legal: %+v", i)
		}
	}
}

// anyCall does any call to a gate and to a plain list, and holds one's answer against the other's; it counts the answers.
func anyCall(t *testing.T, d *dice, g *gate.Gate, p *plain, few int, answers map[string]int) {
	t.Helper()
	player := d.player(few)
	switch d.below(16) {
	case 0:
		got, want := g.Take(), p.take()
		if !slices.Equal(got, want) {
			t.Fatalf("Take: %+v, want %+v", got, want)
		}
		wantLegal(t, got)
		if len(got) > 0 {
			answers["taken"]++
		} else {
			answers["none taken"]++
		}
	case 1, 2:
		want := p.drop(player)
		wantDrop(t, g, player, want)
		if want {
			answers["dropped"]++
		} else {
			answers["none dropped"]++
		}
	case 3, 4, 5, 6:
		want := p.waits(player)
		wantWaits(t, g, player, want)
		if want {
			answers["waits"]++
		} else {
			answers["does not wait"]++
		}
	default:
		c := d.command()
		want := p.offer(player, c)
		wantOffer(t, g, player, c, want)
		if want == api.OK {
			answers["offered"]++
		} else {
			answers["refused"]++
		}
	}
}

// P18.1 to P18.6: any calls in any order, to three gates in turns, each of which is its own plain list.
func TestAnyCalls(t *testing.T) {
	times := 400
	if testing.Short() {
		times = 40
	}
	answers := map[string]int{}
	for n := range times {
		d := dice(n*n + 1)
		few := 1 + d.below(40)
		gates := []*gate.Gate{gate.New(), gate.New(), gate.New()}
		lists := make([]plain, len(gates))
		for range 600 {
			k := d.below(len(gates))
			anyCall(t, &d, gates[k], &lists[k], few, answers)
		}
		for k, g := range gates {
			wantTake(t, g, lists[k].take()...)
		}
	}
	for _, answer := range []string{"taken", "none taken", "dropped", "none dropped", "waits", "does not wait", "offered", "refused"} {
		if answers[answer] < times {
			t.Errorf("%q was answered %d times", answer, answers[answer])
		}
	}
}

// alone are the answers of one player's calls, of many, while others' are done to the same gate between them, or are not.
func alone(t *testing.T, seed dice, player int, others bool) []string {
	t.Helper()
	d, busy, g := seed, seed+1, gate.New()
	var told []string
	for range 200 {
		for range busy.below(4) {
			other := busy.player(5)
			c, call := busy.command(), busy.below(3)
			if !others || other == player {
				continue
			}
			switch call {
			case 0:
				g.Drop(other)
			case 1:
				g.Waits(other)
			default:
				g.Offer(other, c)
			}
		}
		told = append(told, oneCall(&d, g, player))
	}
	return told
}

// oneCall does any call for one player, and tells its answer; of Take what is this player's.
func oneCall(d *dice, g *gate.Gate, player int) string {
	c := d.command()
	switch d.below(5) {
	case 0:
		if g.Drop(player) {
			return "dropped"
		}
	case 1:
		if g.Waits(player) {
			return "waits"
		}
	case 2:
		for _, i := range g.Take() {
			if i.Player == player {
				return string(rune('a'+i.Throttle+100)) + string(rune('a'+i.Turn+8))
			}
		}
	default:
		return g.Offer(player, c).Error()
	}
	return "no"
}

// P18.6: what one player's calls answer is the same, whether others' are done between them or not.
func TestPlayersApart(t *testing.T) {
	for _, player := range players {
		for seed := dice(1); seed < 20; seed++ {
			by, beside := alone(t, seed, player, false), alone(t, seed, player, true)
			if !slices.Equal(by, beside) {
				t.Fatalf("player %d: %q by itself, %q beside others", player, by, beside)
			}
		}
	}
}

// R13: the same offers to many gates, in many orders, are taken alike each time.
func TestOneAnswer(t *testing.T) {
	d := dice(99)
	commands := map[int]api.Command{}
	for _, player := range players {
		commands[player] = d.command()
	}
	var first []api.Intent
	for n := range 200 {
		g := gate.New()
		for player, c := range commands {
			wantOffer(t, g, player, c, api.OK)
		}
		got := g.Take()
		if n == 0 {
			first = got
		}
		if !slices.Equal(got, first) || len(got) != len(players) {
			t.Fatalf("Take: %+v, and before %+v", got, first)
		}
		wantLegal(t, got)
	}
}
