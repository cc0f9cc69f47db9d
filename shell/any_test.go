package shell_test

import (
	"slices"
	"strconv"
	"strings"
	"testing"

	"joust/shell"
)

// This file plays any lines on a shell, and on a plain one beside it.

var (
	someNames   = []string{"ann", "ann", "ann", "bob", "bob", "Ann", "ANN", "cy", "cy", "zoe", "D\u00e4n", "D\u00c4N", "a$", "\xff"}
	someSources = []string{"a:1", "a:1", "b:1", "s", "s", "\xff\x00", "#"}
	someBoards  = []string{
		"#####; #S.E#; #...#; #A.S#; #####",
		"#######; #SSSSS#; #######",
		"########; #S....S#; #.##.E.#; #A...S.#; ########",
		"###; #S#; ###",
		"###; #.#; ###",
		"###; #S#",
	}
)

// setup are lines that come ahead of an open: a board, accounts, numbers.
func (d *dice) setup() []string {
	lines := []string{"clear"}
	for row := range strings.SplitSeq(pick(d, someBoards[:4+2*(1-min(1, d.below(8)))]...), "; ") {
		lines = append(lines, "row "+row)
	}
	accounts := []string{"ann", "bob", "cy", "D\u00e4n"}
	for _, name := range accounts[:d.within(1, 4)] {
		lines = append(lines, "account "+name)
	}
	if d.one(12) {
		lines = append(lines, "account "+pick(d, someNames...))
	}
	for range d.below(5) {
		lines = append(lines, d.set())
	}
	return append(lines, "open")
}

// set is a line that sets a number: mostly one that may be, and is small.
func (d *dice) set() string {
	key := pick(d, "sessions", "output", "rate", "burst", "sourcerate", "sourceburst", "idle", "life", "radius", "show")
	n := map[string][]int{
		"sessions": {1, 2, 3, 32}, "output": {1, 2, 5, 256}, "rate": {0, 5, 16, 1000}, "burst": {1, 2, 1000}, "sourcerate": {0, 3, 16, 1000}, "sourceburst": {1, 3, 1000},
		"idle": {1, 3, 10, 100000}, "life": {1, 2, 5, 100000}, "radius": {0, 10, 1024}, "show": {0, 1, 3, 32},
	}[key]
	if d.one(60) {
		n = []int{-1, 0, 33, 1001, 999999}
	}
	return "set " + key + " " + strconv.Itoa(pick(d, n...))
}

// play is a line that does something to a match.
func (d *dice) play() string {
	name, source := pick(d, someNames...), pick(d, someSources...)
	switch d.below(12) {
	case 0, 1:
		return "join " + name + " " + source
	case 2, 3, 4, 5:
		numbers := strconv.Itoa(pick(d, 0, 0, 30, 100, 127, -128, -128, 128, d.within(-128, 127))) + " " + strconv.Itoa(pick(d, 0, 0, 0, 1, -2, 8, 127, -129))
		return "drive " + name + " " + numbers + pick(d, "", "", " fire", " fire", " fire", " boost", " fire boost", "\tboost fire", " fire fire")
	case 6:
		return pick(d, "bye ", "bye ", "view ") + name
	case 7:
		return "again " + name + " " + source
	case 8:
		return raw(source, pick(d, "", "J01", "J01\x09", hello(rep("n", 16)), hello(rep("n", 16))+"x", "J01\x01"+rep("n", 92), hello(tag("nonce", name)[:16]), command(uint64(d.below(5)), uint64(d.below(70)), tag("account", name)), connect(tag("seed", ""), source, rep("n", 16), name)))
	case 9:
		return pick(d, "draw ", "seed ") + name
	}
	return pick(d, "tick", "tick", "tick", "tick 2", "tick "+strconv.Itoa(d.within(-1, 9)), "tick "+strconv.Itoa(d.within(0, 40)))
}

// look is one of the lines that change nothing.
func (d *dice) look() string {
	return pick(d, "cars", "shots", "lives", "counts", "ledger", "judge", "board", "view "+pick(d, someNames...), "demo "+strconv.Itoa(d.within(-1, 50)))
}

// match are lines: one that may be opened, one that is played, with others between.
func (d *dice) match(n int) []string {
	lines := d.setup()
	for range n {
		switch {
		case d.one(300):
			lines = append(lines, "open")
		case d.one(200):
			lines = append(lines, d.setup()...)
		case d.one(80):
			lines = append(lines, d.set())
		case d.one(80):
			lines = append(lines, pick(d, "clear", "account ann", "account Ann", "row x", "row"))
		case d.one(40):
			lines = append(lines, d.spoilt(d.play()))
		case d.one(200): // more commands than a window has
			lines = append(lines, slices.Repeat([]string{"drive " + pick(d, someNames...) + " 1 1"}, 70)...)
		case d.one(3):
			lines = append(lines, d.look())
		default:
			lines = append(lines, d.play())
		}
	}
	return lines
}

// spoilt is a line of which some bytes are others, or missing, or new.
func (d *dice) spoilt(line string) string {
	for range d.within(1, 3) {
		at := d.below(len(line) + 1)
		end := min(len(line), at+d.below(3))
		line = line[:at] + pick(d, "", "", d.bytes(1), " ", "\t", "0", "-", "x", "#", "\n", "\u00e4") + line[end:]
	}
	return line
}

// same asks that a line tells the same of both, and gives it.
func same(t *testing.T, s *shell.Shell, p *plain, line string) []string {
	t.Helper()
	got, want := s.Do(line), p.Do(line)
	if !slices.Equal(got, want) {
		t.Fatalf("%q tells\n%q, want\n%q", line, got, want)
	}
	return got
}

// P28.1, P28.2, P28.4: any lines tell what the plain shell tells; judge behind each is clean. All refusals are met, and all that can be told.
func TestAnyMatch(t *testing.T) {
	d := dice(3141592653589)
	met := map[string]int{}
	for range rounds(150) {
		s, p := shell.New(), newPlain()
		for _, line := range d.match(150) {
			for _, x := range same(t, s, p, line) {
				met[x]++
				met[strings.SplitN(x, " ", 2)[0]]++
			}
			if p.s != nil && d.one(4) {
				wantTold(t, s, said{"judge", "clean"})
			}
		}
	}
	for _, x := range []string{"60", "70", "71", "72", "73", "80", "91", "92", "100", "101", "111", "120", "121", "122", "123", "124", "140", "141", "180", "230", "240", "261", "280"} {
		if met["error "+x] == 0 && !testing.Short() {
			t.Errorf("no line meets error %s", x)
		}
	}
	for _, x := range []string{"open", "ok", "clean", "tick", "car", "shot", "session", "hellos", "entries", "sees", "ann", "ANN"} {
		if met[x] == 0 && !testing.Short() {
			t.Errorf("no line tells %s", x)
		}
	}
}

// P28.1: lines of any bytes, with a server and without one; and lines of forms that were spoilt.
func TestAnyBytes(t *testing.T) {
	d := dice(1414213562373)
	for i := range rounds(20) {
		s, p := shell.New(), newPlain()
		if i%2 == 1 {
			for _, line := range append(strings.Split(example, "; "), "open", "join ann a:1", "drive ann 100 0", "tick") {
				same(t, s, p, line)
			}
		}
		for range 300 {
			same(t, s, p, d.bytes(d.below(40)))
			same(t, s, p, d.spoilt(d.play()))
			same(t, s, p, d.spoilt(d.look()))
			same(t, s, p, pick(&d, "row ", "account ", "seed ", "set idle ", "join ", "drive ", "raw ", "tick ", "demo ", "view ")+d.bytes(d.below(9)))
			same(t, s, p, pick(&d, served...))
		}
	}
}

// P28.1: great lines, and many of them.
func TestGreatLines(t *testing.T) {
	s := opened(t, example)
	great := rep("x", 1<<20)
	for _, line := range []string{great, "row " + great, "seed " + great, "draw " + great, "join " + great + " x", "raw " + great, "raw x " + rep("00", 1<<20), "set " + great + " 1", "set idle " + rep("1", 1<<20), "tick " + rep("0", 1<<20) + "1", "drive x 1 1 " + rep("fire ", 1<<18), "account " + great, rep("cars ", 1<<18), rep("\xff", 1<<20), rep("\u2588 ", 1<<18)} {
		s.Do(line)
	}
	wantTold(t, s, said{"join ann " + great, "ann session 1 player 0"}, said{"lives", "session 1 player 0 ann from " + great + " heard 0 high 0 sent 0"}, said{"judge", "clean"}, said{"open", "error 230"}, said{"clear", ""}, said{"open", "error 140"})
	for range rounds(30000) {
		s.Do("row ################################################################")
	}
	wantTold(t, s, said{"open", "error 140"})
}

// A full lobby that plays for long, on one board, with clients that share sources.
func TestLongMatch(t *testing.T) {
	d := dice(1732050807568)
	s, p := shell.New(), newPlain()
	for _, line := range append(strings.Split("row ##########; row #S......S#; row #..####..#; row #E......A#; row #S......S#; row ##########", "; "), "set sessions 32", "set output 40", "set sourceburst 1000", "set show 32", "set idle 100") {
		same(t, s, p, line)
	}
	var names []string
	for i := range 34 {
		names = append(names, "p"+strconv.Itoa(i))
		same(t, s, p, "account "+names[i])
	}
	same(t, s, p, "open")
	for i, name := range names {
		same(t, s, p, "join "+name+" "+strconv.Itoa(i%20))
	}
	wrecks := 0
	for range rounds(150) {
		for _, name := range names {
			same(t, s, p, "drive "+name+" "+strconv.Itoa(d.within(-100, 100))+" "+strconv.Itoa(d.within(-8, 8))+pick(&d, "", " fire", " boost", " boost fire"))
		}
		for _, line := range []string{"tick", "cars", "shots", "lives", "counts", "ledger", "view " + pick(&d, names...), "judge"} {
			wrecks += strings.Count(strings.Join(same(t, s, p, line), "\n"), " wreck ")
		}
		if d.one(10) {
			same(t, s, p, pick(&d, "bye ", "drive ")+pick(&d, names...)+pick(&d, "", " 1 1"))
			same(t, s, p, "join "+pick(&d, names...)+" x")
		}
	}
	same(t, s, p, "demo 10")
	if wrecks == 0 && !testing.Short() {
		t.Error("no car is a wreck")
	}
}
