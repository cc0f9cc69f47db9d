package shell_test

import (
	"testing"
)

// This file is carrying: who hears what, who sends what, and what was refused last.

// Hard place: two clients of one source both hear what is sent to it, and each believes its own.
func TestOneSource(t *testing.T) {
	s := opened(t, lane+"; set radius 0")
	wantTold(t, s,
		said{"join ann s:1", "ann session 1 player 0"}, said{"join bob s:1", "bob session 2 player 1"},
		said{"drive bob 0 3", "ok"}, said{"drive ann 0 -1", "ok"}, said{"tick", "tick 1"},
		said{"view ann", "tick 1; car 0 ann at 786432 786432 heading 255 health 100 energy 100 ammo 20 score 0"},
		said{"view bob", "tick 1; car 1 bob at 1835008 786432 heading 3 health 100 energy 100 ammo 20 score 0"},
		said{"again ann s:1", "error 91"}, said{"again bob s:1", "error 91"},
		said{"bye ann", "ok"}, said{"drive bob 0 1", "ok"}, said{"tick", "tick 2"}, said{"drive bob 0 1", "ok"},
		said{"view ann", "tick 1; car 0 ann at 786432 786432 heading 255 health 100 energy 100 ammo 20 score 0"},
		said{"view bob", "tick 2; car 1 bob at 1835008 786432 heading 4 health 100 energy 100 ammo 20 score 0"},
		said{"join ann s:1", "ann session 3 player 0"}, said{"bye bob", "ok"},
		said{"lives", "session 3 player 0 ann from s:1 heard 2 high 0 sent 0"},
		said{"counts", "hellos 3 accepted 9 refused 2 dropped 0 ignored 0"},
	)
}

// What is sent to a source comes to its clients alone.
func TestOtherSource(t *testing.T) {
	s := opened(t, lane)
	wantTold(t, s, said{"join ann a:1", "ann session 1 player 0"}, said{"join zoe a:1x", "error 120"}, said{"tick 21", "tick 21"}, said{"drive ann 1 1", "error 240"},
		said{"again ann a:1x", "error 101"}, said{"again ann a:1", "ok"}, said{"drive ann 1 1", "ok"}, said{"view zoe", "error 240"})
}

// Hard place: a join of an account that plays already. The client of this name is gone from the shell; its session lives until it is idle too long.
func TestTaken(t *testing.T) {
	s := opened(t, example+"; set idle 3")
	wantTold(t, s,
		said{"join ann a:1", "ann session 1 player 0"}, said{"drive ann 1 1", "ok"}, said{"tick", "tick 1"},
		said{"join ann c:1", "error 121"}, said{"drive ann 1 1", "error 240"}, said{"view ann", "error 240"}, said{"bye ann", "error 240"}, said{"again ann c:1", "error 121"},
		said{"lives", "session 1 player 0 ann from a:1 heard 0 high 1 sent 1"},
		said{"tick 2", "tick 3"}, said{"lives", "session 1 player 0 ann from a:1 heard 0 high 1 sent 3"},
		said{"tick", "tick 4"}, said{"lives", ""}, said{"again ann a:1", "error 101"}, said{"again ann c:1", "ok"},
		said{"lives", "session 2 player 0 ann from c:1 heard 4 high 0 sent 0"}, said{"drive ann 1 1", "ok"}, said{"judge", "clean"},
	)
}

// Clients of one spelling take each other's place; of another one they stand beside each other, whatever account they have.
func TestSpelling(t *testing.T) {
	s := opened(t, example+"; account D\u00e4n; set sourceburst 9")
	wantTold(t, s,
		said{"join ANN b:1", "ANN session 1 player 0"}, said{"join ann a:1", "error 121"}, said{"drive ann 1 1", "error 240"}, said{"drive ANN 1 1", "ok"}, said{"drive Ann 1 1", "error 60"},
		said{"lives", "session 1 player 0 ANN from b:1 heard 0 high 1 sent 0"},
		said{"join D\u00c4N d:1", "D\u00c4N session 2 player 1"}, said{"join D\u00e4n d:1", "error 121"}, said{"join dan d:1", "error 120"},
		said{"cars", "car 0 ANN at 786432 786432 heading 0 health 100 energy 100 ammo 20 score 0; car 1 D\u00c4N at 1835008 1835008 heading 0 health 100 energy 100 ammo 20 score 0"},
		said{"bye ANN", "ok"}, said{"join ann a:1", "ann session 3 player 0"}, said{"drive ANN 1 1", "error 240"}, said{"drive ann 1 1", "ok"}, said{"judge", "clean"},
	)
}

// A client that may not be: nothing comes of it, no client, no datagram.
func TestJoinName(t *testing.T) {
	s := opened(t, example)
	for _, name := range []string{"a$", "#", "abcdefghijklm", "\xff", "ann\n", "an\u0301n", "\u03b1\u03b2\u03b3\u03b4\u03b5\u03b6\u03b7\u03b8\u03b9\u03ba\u03bb\u03bc\u03bd"} {
		wantTold(t, s, said{"join " + name + " x", "error 60"}, said{"drive " + name + " 1 1", "error 60"}, said{"again " + name + " x", "error 60"})
	}
	wantTold(t, s, said{"counts", "hellos 0 accepted 0 refused 0 dropped 0 ignored 0"}, said{"join abcdefghijkl x", "error 120"}, said{"again abcdefghijkl x", "error 120"})
}

// join takes the secret of the first account, as the configuration stands at its line, that is the same name; else its own name's.
func TestJoinSecret(t *testing.T) {
	for _, x := range []struct{ lines, told string }{
		{"", "ann session 1 player 0"},
		{"account Ann; account ANN", "ann session 1 player 0"},
		{"clear", "ann session 1 player 0"},
		{"clear; account bob", "ann session 1 player 0"},
		{"clear; account Ann", "error 124"},
		{"clear; account Ann; account ann", "error 124"},
		{"clear; account ann; account Ann", "ann session 1 player 0"},
		{"clear; account ann$; account ann", "ann session 1 player 0"},
	} {
		s := opened(t, example)
		if x.lines != "" {
			quiet(t, s, x.lines)
		}
		wantTold(t, s, said{"join ann a:1", x.told})
	}
	s := opened(t, example)
	wantTold(t, s, said{"clear", ""}, said{"join ANN a:1", "error 124"}, said{"join ann a:1", "ann session 1 player 0"}, said{"join ANN a:1", "error 124"}, said{"account ann", ""}, said{"join ANN a:1", "error 121"})
}

// join tells what was refused last.
func TestJoinRefused(t *testing.T) {
	s := opened(t, example+"; account eve; set sessions 1; set sourceburst 2; set sourcerate 0")
	wantTold(t, s, said{"join ann a:1", "ann session 1 player 0"}, said{"join eve a:1", "error 111"}, said{"join eve a:1", "error 80"}, said{"join zoe a:1", "error 80"},
		said{"join zoe b:1", "error 120"}, said{"join ANN b:1", "error 121"}, said{"join ANN b:1", "error 80"}, said{"counts", "hellos 7 accepted 1 refused 6 dropped 0 ignored 0"})
}

// What is refused of a drive, first by the client, then by the server.
func TestDriveRefused(t *testing.T) {
	s := opened(t, example+"; set output 1; set idle 5; set burst 1; set rate 8; set radius 0")
	wantTold(t, s, said{"drive ann 999 0", "error 60"}, said{"join ann a:1", "ann session 1 player 0"}, said{"drive ann 128 0", "error 73"},
		said{"drive ann 0 0", "ok"}, said{"drive ann 0 0", "error 180"}, said{"drive ann 0 999", "error 73"}, said{"tick", "tick 1"}, said{"drive ann 0 0", "error 80"}, said{"tick", "tick 2"},
		said{"lives", "session 1 player 0 ann from a:1 heard 0 high 1 sent 2"}, said{"drive ann 0 0", "ok"}, said{"lives", "session 1 player 0 ann from a:1 heard 2 high 4 sent 2"})
	for range 64 {
		wantTold(t, s, said{"drive ann 0 0", "error 180"})
	}
	wantTold(t, s, said{"drive ann 0 0", "error 92"}, said{"drive ann 128 0", "error 73"}, said{"bye ann", "error 92"}, said{"drive ann 128 0", "error 240"}, said{"again ann a:1", "error 92"}, said{"again ann b:1", "error 123"},
		said{"lives", "session 1 player 0 ann from a:1 heard 2 high 4 sent 2"})
	// Where there is room for one bye alone, the other client does not hear that its session is over.
	wantTold(t, s, said{"open", "open"}, said{"join ann a:1", "ann session 1 player 0"}, said{"join bob b:1", "bob session 2 player 1"}, said{"tick 6", "tick 6"}, said{"lives", ""},
		said{"drive ann 0 0", "error 240"}, said{"drive bob 0 0", "error 122"}, said{"bye ann", "error 240"}, said{"bye bob", "error 122"}, said{"bye bob", "error 240"}, said{"again bob b:1", "error 122"}, said{"judge", "clean"},
		said{"counts", "hellos 2 accepted 2 refused 3 dropped 6 ignored 0"})
}

// again sends what the client sent last: a connect, a command, a bye; whether it was refused or not, and from any source.
func TestAgain(t *testing.T) {
	s := opened(t, example+"; set idle 2; set life 3; set sourceburst 100")
	wantTold(t, s,
		said{"join ann a:1", "ann session 1 player 0"}, said{"again ann a:1", "error 121"}, said{"again ann b:1", "error 101"},
		said{"drive ann 1 1", "ok"}, said{"again ann a:1", "error 91"}, said{"again ann b:1", "error 123"},
		said{"drive ann 1 1", "error 180"}, said{"again ann a:1", "error 180"}, said{"drive ann 999 1", "error 73"}, said{"tick", "tick 1"},
		said{"again ann a:1", "ok"}, said{"lives", "session 1 player 0 ann from a:1 heard 1 high 2 sent 1"},
		said{"bye ann", "ok"}, said{"again ann a:1", "error 122"}, said{"bye ann", "error 240"}, said{"again ann a:1", "error 122"},
		// A connect once more: within its cookie's life, behind it, while nobody is there.
		said{"join ann a:1", "ann session 2 player 0"}, said{"tick 3", "tick 4"}, said{"lives", ""}, said{"again ann b:1", "error 101"}, said{"again ann a:1", "ok"},
		said{"lives", "session 3 player 0 ann from a:1 heard 4 high 0 sent 0"}, said{"again ann a:1", "error 121"}, said{"tick 2", "tick 6"}, said{"again ann a:1", "error 100"}, said{"again ann b:1", "error 100"},
		said{"tick", "tick 7"}, said{"drive ann 1 1", "error 240"}, said{"join ann a:1", "ann session 4 player 0"}, said{"judge", "clean"},
	)
	// Who is refused has sent a connect; no other client's counts.
	wantTold(t, s, said{"join zoe z:1", "error 120"}, said{"join ANN y:1", "error 121"}, said{"again zoe z:1", "error 120"}, said{"again zoe y:1", "error 101"}, said{"again ANN y:1", "error 121"}, said{"again ann a:1", "error 121"})
}

// An open ends the match: its clients are gone, also if it is refused. The configuration that is set is the next server's alone.
func TestOpen(t *testing.T) {
	s := opened(t, example)
	wantTold(t, s, said{"join ann a:1", "ann session 1 player 0"}, said{"tick 3", "tick 3"}, said{"open", "open"},
		said{"drive ann 1 1", "error 60"}, said{"bye ann", "error 60"}, said{"again ann a:1", "error 60"}, said{"view ann", "error 60"}, said{"lives", ""}, said{"ledger", "entries 0 joins 0 leaves 0 ticks 0 commands 0"}, said{"demo 1", "error 261"},
		said{"join ann a:1", "ann session 1 player 0"}, said{"set sessions 0", ""}, said{"row x", ""}, said{"account ann", ""}, said{"seed y", ""},
		said{"judge", "clean"}, said{"board", "#####; #S.E#; #...#; #A.S#; #####"}, said{"demo 0", "tick 0"}, said{"join bob b:1", "bob session 2 player 1"}, said{"tick", "tick 1"}, said{"demo 1", "tick 1; car 0 ann at 786432 786432 heading 0 health 100 energy 100 ammo 20 score 0; car 1 bob at 1835008 1835008 heading 0 health 100 energy 100 ammo 20 score 0"}, said{"judge", "clean"},
		said{"open", "error 230"}, said{"drive ann 1 1", "error 230"}, said{"set sessions 3", ""}, said{"open", "error 230"}, said{"clear", ""}, said{"open", "error 140"}, said{"account ann", ""})
	quiet(t, s, "row ###; row #S#; row ###; open")
	wantTold(t, s, said{"drive ann 1 1", "error 60"}, said{"join ann a:1", "ann session 1 player 0"}, said{"join bob b:1", "error 120"}, said{"board", "###; #S#; ###"}, said{"judge", "clean"})
}

// Accounts that may not be are refused by open.
func TestAccounts(t *testing.T) {
	board := "row ###; row #S#; row ###"
	many := board
	for i := range 64 {
		many += "; account a" + string([]byte{byte('a' + i/26), byte('a' + i%26)})
	}
	for _, x := range []said{
		{board, "open"}, {board + "; account a$", "error 230"}, {board + "; account ann; account ANN", "error 230"}, {board + "; account abcdefghijkl", "open"}, {board + "; account abcdefghijklm", "error 230"},
		{many, "open"}, {many + "; account b", "error 230"}, {"account a$", "error 230"}, {"account a$; clear; " + board, "open"},
	} {
		s := opened(t, board)
		wantTold(t, s, said{"clear", ""})
		quiet(t, s, x.line)
		wantTold(t, s, said{"open", x.want})
	}
}
