package shell_test

import (
	"strings"
	"testing"

	"joust/shell"
)

// bare lines want no server; the others do. Each is a line of the form that its command has.
var (
	bare   = strings.Split("row; row x; row x y z; clear; account x; set idle 1; seed x; open", "; ")
	served = strings.Split("join x y; drive x 1 1; drive x 1 1 fire; drive x 1 1 boost; drive x 1 1 fire boost; drive x -999999 999999 boost fire; bye x; again x y; raw x; raw x 09afAF; draw x; tick; tick 1; tick 200; tick 000200; tick 000001; cars; shots; lives; counts; ledger; view x; judge; demo 0; demo -1; demo 999999; board", "; ")
)

// forms that are none.
var none = []string{
	"frob", "Cars", "CARS", "car", "carss", "cars#", "cars\n", "\ncars", "cars\r", "cars\x00", "cars\v", "\u00a0cars", "\u2003cars", "cars,", "\"cars\"", "rows", "ro", "row#", "row\n", "Row x", "open;", "\xff", "\xffcars", "cars\xff", "!", ";", "ticks", "280",
	"clear x", "clear #", "open now", "open #", "account", "account ", "account a b", "account a #", "seed", "seed a b", "set", "set idle", "set 1", "set idle 1 1", "set none 1", "set idle idle", "set idle x", "set Idle 1", "set seed 1", "set board 1",
	"join", "join a", "join a ", "join a b c", "join a b #",
	"drive", "drive a", "drive a 1", "drive a 1 ", "drive a 1 x", "drive a x 1", "drive a 1 1 1", "drive a 1 1 Fire", "drive a 1 1 fire fire", "drive a 1 1 boost boost", "drive a 1 1 fire boost fire", "drive a 1 1 fire boost boost", "drive a 1 1 wings", "drive a 1 1 fireboost", "drive a 1 1 fire,boost", "drive a 1 fire 1", "drive a fire 1 1", "drive fire", "drive a 1234567 1", "drive a 1 -1234567", "drive a - 1", "drive a 1 -", "drive a +1 1", "drive a 1- 1", "drive a \u0661 1", "drive a 1 1 fire #",
	"bye", "bye a b", "again", "again a", "again a b c", "view", "view a b",
	"raw", "raw x 0", "raw x 000", "raw x 0g", "raw x g0", "raw x 0x00", "raw x 00 00", "raw x 00 ", "raw x -0", "raw x 0\u00e4", "raw x \u00e40", "raw x \u00e4", "raw x 0/", "raw x 0:", "raw x 0@", "raw x 0G", "raw x 0`", "raw x \xff\xff", "raw x 4a3",
	"draw", "draw a b", "tick 0", "tick -0", "tick 000000", "tick -1", "tick 201", "tick 999999", "tick 0000001", "tick x", "tick 1 1", "tick 1x", "tick  0", "tick \u0662",
	"cars x", "shots x", "lives x", "counts x", "ledger x", "judge x", "board x", "cars cars", "cars #", "lives 1", "demo", "demo x", "demo 1 1", "demo 1000000", "demo -1000000", "demo --1", "demo -", "demo +1", "demo 1.5", "demo 1e1",
}

func wantOne(t *testing.T, s *shell.Shell, line, want string) {
	t.Helper()
	if got := s.Do(line); len(got) != 1 || got[0] != want {
		t.Errorf("%q tells %q, want %q", line, got, want)
	}
}

// P28.2: a line that is none is so with a server and without one: it is looked at ahead of all else. "raw x 00 " is a form by its blanks.
func TestNone(t *testing.T) {
	with := opened(t, example)
	wantTold(t, with, said{"join ann a:1", "ann session 1 player 0"})
	for _, line := range none {
		if line == "raw x 00 " {
			wantOne(t, shell.New(), line, "error 230")
			wantOne(t, with, line, "error 70")
			continue
		}
		wantOne(t, shell.New(), line, "error 280")
		wantOne(t, with, line, "error 280")
	}
	wantTold(t, with, said{"ledger", "entries 1 joins 1 leaves 0 ticks 0 commands 0"}, said{"counts", "hellos 1 accepted 1 refused 1 dropped 0 ignored 0"})
}

// A line that is none has changed nothing of the configuration either.
func TestNoneSetsNothing(t *testing.T) {
	s := shell.New()
	quiet(t, s, example)
	for _, line := range none {
		s.Do(line)
	}
	wantTold(t, s, said{"open", "open"}, said{"board", "#####; #S.E#; #...#; #A.S#; #####"}, said{"join ann a:1", "ann session 1 player 0"}, said{"join a b", "error 120"})
	other := opened(t, example)
	wantTold(t, other, said{"join ann a:1", "ann session 1 player 0"}, said{"join a b", "error 120"})
}

// P28.2: each command that wants a server is refused where there is none, behind the form, ahead of all else: names that nobody has, ticks that there are not. So it is behind an open that was refused.
func TestNoServer(t *testing.T) {
	refused := opened(t, example)
	wantTold(t, refused, said{"join x y", "error 120"}, said{"set life 0", ""}, said{"open", "error 230"}, said{"set life 1", ""})
	for _, s := range []*shell.Shell{shell.New(), refused} {
		for _, line := range served {
			wantOne(t, s, line, "error 230")
		}
		wantOne(t, s, "join a$ y", "error 230")
	}
	for _, line := range bare {
		if got := shell.New().Do(line); len(got) > 0 && got[0] == "error 280" || len(got) > 0 && line != "open" {
			t.Errorf("%q tells %q", line, got)
		}
	}
}

// A word is parted from others by any run of blanks and tabs, by nothing else.
func TestBlanks(t *testing.T) {
	for _, blank := range []string{" ", "\t", "  ", " \t ", "\t\t\t", rep(" \t", 500)} {
		for _, around := range []string{"", blank} {
			s := opened(t, example)
			for _, x := range []said{
				{"join ann a:1", "ann session 1 player 0"}, {"drive ann 100 0 fire boost", "ok"}, {"tick 3", "tick 3"}, {"again ann b:1", "error 123"}, {"raw x 4a3031", "error 71"}, {"draw x", ""},
				{"demo 0", "tick 0"}, {"set idle 5", ""}, {"seed x", ""}, {"account eve", ""}, {"bye ann", "ok"}, {"lives", ""}, {"clear", ""}, {"open", "error 140"},
			} {
				x.line = around + strings.ReplaceAll(x.line, " ", blank) + around
				wantTold(t, s, x)
			}
		}
	}
	s := opened(t, example)
	for _, word := range []string{"a\nb", "\u00a0", "\u2003x", "a\x00", "\v\f\r", "\xff\xfe", "a\xc3", "\xe2\x96", "#", "\u2588"} {
		wantOne(t, s, "join ann "+word, "ann session 1 player 0")
		wantOne(t, s, "lives", "session 1 player 0 ann from "+word+" heard 0 high 0 sent 0")
		wantOne(t, s, "again ann "+word, "error 121")
		wantOne(t, s, "open", "open")
		wantOne(t, s, "join "+word+" x", "error 60")
	}
}

// Lines without words, and those whose first word begins with '#', say nothing.
func TestSilent(t *testing.T) {
	for _, s := range []*shell.Shell{shell.New(), opened(t, example)} {
		for _, line := range []string{"", " ", "\t", " \t \t", "#", "##", "# cars", "#cars", " # cars", "\t#", "  #\xff", "#row x", "#\n", rep(" ", 100000), "#" + rep("x", 100000)} {
			wantTold(t, s, said{line, ""})
		}
		if got := s.Do("cars #"); len(got) != 1 {
			t.Errorf("a remark that is not the first word: %q", got)
		}
	}
}

// raw: bytes by their digits, great and small; as many as there are.
func TestRawBytes(t *testing.T) {
	s := opened(t, example)
	hello := "4a303101" + rep("5A", 16) + rep("00", 76)
	wantTold(t, s,
		said{"raw x", "error 70"}, said{"raw x ", "error 70"}, said{"raw x 4a", "error 70"}, said{"raw x 4A30", "error 70"}, said{"raw x 4a3031", "error 71"}, said{"raw x 4A3031", "error 71"}, said{"raw x 5a3031", "error 70"},
		said{"raw x 4a303109", "error 71"}, said{"raw x 4a303101", "error 72"}, said{"raw x 4a303102" + rep("00", 56), "error 71"},
		said{"raw x " + hello, "ok"}, said{"raw x " + strings.ToLower(hello), "ok"}, said{"raw x " + hello + "00", "error 72"}, said{"raw x " + hello[:190] + "01", "error 73"},
		said{"raw x " + rep("4a", 1200), "error 70"}, said{"raw x " + rep("4a", 1201), "error 72"},
		said{"raw x 4a303105" + rep("00", 51), "error 122"}, said{"raw x 4a303107" + rep("00", 48), "error 122"}, said{"raw x 4a303103" + rep("00", 89), "error 100"},
		said{"counts", "hellos 2 accepted 0 refused 17 dropped 0 ignored 0"},
	)
}

// N has six digits at most, perhaps with '-' ahead.
func TestNumbers(t *testing.T) {
	s := opened(t, example)
	wantTold(t, s, said{"join ann a:1", "ann session 1 player 0"},
		said{"drive ann 127 -128", "ok"}, said{"tick", "tick 1"}, said{"drive ann 128 0", "error 73"}, said{"drive ann 0 -129", "error 73"}, said{"drive ann -128 000127", "ok"}, said{"tick", "tick 2"},
		said{"drive ann -999999 0", "error 73"}, said{"drive ann 0 999999", "error 73"}, said{"drive ann -0 -000000", "ok"},
		said{"lives", "session 1 player 0 ann from a:1 heard 2 high 3 sent 2"}, said{"tick 007", "tick 9"}, said{"tick 200", "tick 209"},
		said{"demo 000000", "tick 0"}, said{"demo 000209", "tick 209"}, said{"demo 210", "error 261"}, said{"demo 999999", "error 261"}, said{"demo -999999", "error 261"})
}
