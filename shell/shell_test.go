package shell_test

import (
	"slices"
	"strings"
	"testing"

	"joust/shell"
)

var rep = strings.Repeat

// said is a line, and what it tells; "; " stands between the lines of what is told, "" is nothing.
type said struct{ line, want string }

func wantTold(t *testing.T, s *shell.Shell, l ...said) {
	t.Helper()
	for _, x := range l {
		var want []string
		if x.want != "" {
			want = strings.Split(x.want, "; ")
		}
		if got := s.Do(x.line); !slices.Equal(got, want) {
			t.Errorf("%q tells\n%q, want\n%q", x.line, got, want)
		}
	}
}

// quiet carries out lines, parted by "; ", that tell nothing, but open.
func quiet(t *testing.T, s *shell.Shell, lines string) {
	t.Helper()
	for line := range strings.SplitSeq(lines, "; ") {
		want := ""
		if line == "open" {
			want = "open"
		}
		wantTold(t, s, said{line, want})
	}
}

const (
	example = "row #####; row #S.E#; row #...#; row #A.S#; row #####; account ann; account bob"
	lane    = "row #####; row #S.S#; row #####; account ann; account bob" // two spawns, each in the other's line of fire
	there   = "car 0 ann at 790272 786432 heading 0 health 100 energy 100 ammo 20 score 0"
)

// opened is a shell with a server, behind other lines that tell nothing.
func opened(t *testing.T, lines string) *shell.Shell {
	t.Helper()
	s := shell.New()
	if s == nil {
		t.Fatal("no shell")
	}
	quiet(t, s, lines+"; open")
	return s
}

// The chapter's examples. Where the shot is: each tick takes a sixteenth of the car's speed, 3840, then 3600; there the shot begins two units ahead, and flies three units and 3600 a tick, for three ticks.
func TestExamples(t *testing.T) {
	s := shell.New()
	wantTold(t, s, said{"cars", "error 230"})
	quiet(t, s, example+"; open")
	wantTold(t, s,
		said{"join ann a:1", "ann session 1 player 0"},
		said{"join zoe z:1", "error 120"},
		said{"join ANN b:1", "error 121"},
		said{"drive ann 100 0", "ok"},
		said{"drive ann 100 0", "error 180"},
		said{"again ann b:1", "error 123"},
		said{"tick", "tick 1"},
		said{"cars", there},
		said{"drive ann 0 0 fire", "ok"},
		said{"tick 3", "tick 4"},
		said{"shots", "shot 0 player 0 at 1525568 786432 left 45"},
		said{"ledger", "entries 7 joins 1 leaves 0 ticks 4 commands 2"},
		said{"judge", "clean"},
		said{"demo 1", "tick 1; " + there},
		said{"raw x 4a3031", "error 71"},
		said{"lives", "session 1 player 0 ann from a:1 heard 1 high 3 sent 4"},
		said{"bye ann", "ok"},
		said{"lives", ""},
		said{"frob", "error 280"},
	)
}

// P28.2: the rows of the table that the examples leave out.
func TestOtherLines(t *testing.T) {
	s := opened(t, example)
	wantTold(t, s,
		said{"counts", "hellos 0 accepted 0 refused 0 dropped 0 ignored 0"},
		said{"ledger", "entries 0 joins 0 leaves 0 ticks 0 commands 0"},
		said{"lives", ""}, said{"cars", ""}, said{"shots", ""}, said{"judge", "clean"}, said{"demo 0", "tick 0"},
		said{"board", "#####; #S.E#; #...#; #A.S#; #####"},
		said{"draw rain", ""},
		said{"join ann a:1", "ann session 1 player 0"},
		said{"join bob b:1", "bob session 2 player 1"},
		said{"view ann", "error 240"},
		said{"drive ann 100 -3 boost", "ok"},
		said{"drive bob -100 8", "ok"},
		said{"lives", "session 1 player 0 ann from a:1 heard 0 high 1 sent 0; session 2 player 1 bob from b:1 heard 0 high 1 sent 0"},
		said{"tick", "tick 1"},
		said{"counts", "hellos 2 accepted 4 refused 0 dropped 0 ignored 0"},
		said{"ledger", "entries 5 joins 2 leaves 0 ticks 1 commands 2"},
		said{"again bob b:1", "error 91"},
		said{"raw y", "error 70"},
		said{"bye bob", "ok"},
		said{"counts", "hellos 2 accepted 5 refused 2 dropped 0 ignored 0"},
		said{"ledger", "entries 6 joins 2 leaves 1 ticks 1 commands 2"},
		said{"drive bob 1 1", "error 240"}, said{"bye bob", "error 240"},
		said{"drive eve 1 1", "error 60"}, said{"bye eve", "error 60"}, said{"again eve e:1", "error 60"}, said{"view eve", "error 60"},
		said{"demo 2", "error 261"}, said{"demo -1", "error 261"}, said{"demo -0", "tick 0"},
		said{"judge", "clean"},
	)
}

// A car's line with a wreck's end; a view of a car and of shots, of a wreck.
func TestWreck(t *testing.T) {
	s := opened(t, lane+"; set idle 1000; set rate 1000")
	wantTold(t, s, said{"join ann a:1", "ann session 1 player 0"}, said{"join bob b:1", "bob session 2 player 1"})
	for range 5 {
		wantTold(t, s, said{"drive ann 0 0 fire", "ok"})
		s.Do("tick 8")
	}
	// A shot hits in the fifth tick of its flight: the fifth shot, fired in tick 33, in tick 37. Three ticks later a wreck has 37 left.
	wantTold(t, s,
		said{"cars", "car 0 ann at 786432 786432 heading 0 health 100 energy 100 ammo 15 score 1; car 1 bob at 1835008 786432 heading 0 health 0 energy 100 ammo 20 score 0 wreck 37"},
		said{"drive ann 0 0 fire", "ok"},
		said{"tick 2", "tick 42"},
		said{"shots", "shot 5 player 0 at 1310720 786432 left 46"},
		said{"view ann", "tick 42; car 0 ann at 786432 786432 heading 0 health 100 energy 94 ammo 14 score 1; sees shot 5 at 1310720 786432"},
		said{"view bob", "tick 42; car 1 bob at 1835008 786432 heading 0 health 0 energy 100 ammo 20 score 0 wreck 35; sees car 0 at 786432 786432 heading 0; sees shot 5 at 1310720 786432"},
		said{"demo 42", "tick 42; car 0 ann at 786432 786432 heading 0 health 100 energy 94 ammo 14 score 1; car 1 bob at 1835008 786432 heading 0 health 0 energy 100 ammo 20 score 0 wreck 35"},
		said{"demo 8", "tick 8; car 0 ann at 786432 786432 heading 0 health 100 energy 100 ammo 19 score 0; car 1 bob at 1835008 786432 heading 0 health 80 energy 100 ammo 20 score 0"},
		said{"tick 34", "tick 76"},
		said{"cars", "car 0 ann at 786432 786432 heading 0 health 100 energy 100 ammo 14 score 1; car 1 bob at 1835008 786432 heading 0 health 0 energy 100 ammo 20 score 0 wreck 1"},
		said{"tick", "tick 77"},
		said{"cars", "car 0 ann at 786432 786432 heading 0 health 100 energy 100 ammo 14 score 1; car 1 bob at 786432 786432 heading 0 health 100 energy 100 ammo 20 score 0"},
		said{"judge", "clean"},
	)
}

// Hard place: row and a blank and nothing, and row alone, are empty rows; a row keeps its blanks.
func TestRows(t *testing.T) {
	for _, x := range []struct{ rows, open, board string }{
		{"", "error 140", ""},
		{"row", "error 140", ""},
		{"row ###; row #S#; row ###", "open", "###; #S#; ###"},
		{"row\t###; \t row #S#; row ###", "open", "###; #S#; ###"},
		{"row  ##  ##; row #S   S#; row #######", "open", "#######; #S...S#; #######"},
		{"row ####; row #S #; row ### ", "open", "####; #S.#; ####"},
		{"row ###; row  #S#; row ###", "error 140", ""},
		{"row ###; row #S#; row ###; row", "error 140", ""},
		{"row ###; row #S#; row ###; row ", "error 140", ""},
		{"row; row ###; row #S#; row ###", "error 140", ""},
		{"row ###; row #S#; row\t###\n", "error 140", ""},
		{"row ###\n#S#; row ###", "open", "###; #S#; ###"},
		{"row ###; row\t\t#S; row ###", "error 140", ""},
		{"row ###; row \u2588S\u2588; row ###", "open", "###; #S#; ###"},
		{"row ###; row #S\xff; row ###", "error 140", ""},
		{"row ###; row #.#; row ###", "error 141", ""},
	} {
		s := shell.New()
		if x.rows != "" {
			quiet(t, s, x.rows)
		}
		wantTold(t, s, said{"open", x.open})
		if x.open == "open" {
			wantTold(t, s, said{"board", x.board})
		} else {
			wantTold(t, s, said{"board", "error 230"})
		}
	}
}

// Hard place: set takes numbers that may not be, and open refuses them. All bounds of the configuration.
func TestSet(t *testing.T) {
	for key, bounds := range map[string][2]string{
		"sessions": {"1", "32"}, "output": {"1", "256"}, "rate": {"0", "1000"}, "burst": {"1", "1000"},
		"sourcerate": {"0", "1000"}, "sourceburst": {"1", "1000"}, "idle": {"1", "100000"}, "life": {"1", "100000"},
		"radius": {"0", "1024"}, "show": {"0", "32"},
	} {
		below := map[string]string{"0": "-1", "1": "0"}[bounds[0]]
		above := map[string]string{"32": "33", "256": "257", "1000": "1001", "1024": "1025", "100000": "100001"}[bounds[1]]
		for _, n := range bounds {
			opened(t, example+"; set "+key+" "+n)
		}
		for _, n := range []string{below, above, "-999999", "999999"} {
			s := opened(t, example)
			wantTold(t, s, said{"set " + key + " " + n, ""}, said{"counts", "hellos 0 accepted 0 refused 0 dropped 0 ignored 0"})
			wantTold(t, s, said{"open", "error 230"}, said{"cars", "error 230"}, said{"set " + key + " " + bounds[1], ""}, said{"open", "open"})
		}
		for _, line := range []string{"set " + key, "set " + key + " x", "set " + key + " 1 2", "set " + key + "s 1", "set " + strings.ToUpper(key) + " 1", "set 1 " + key, "set " + key + " 1000000", "set " + key + " 0000001", "set " + key + " +1", "set " + key + " 1.0", "set " + key + " --1", "set " + key + " -", "set " + key + " 0x1"} {
			s := shell.New()
			wantTold(t, s, said{line, "error 280"})
			quiet(t, s, example+"; open")
		}
	}
}

// What each number that is set is for: none is another's.
func TestSetMeans(t *testing.T) {
	full := said{"join bob b:1", "error 111"}
	wantTold(t, opened(t, example+"; set sessions 1"), said{"join ann a:1", "ann session 1 player 0"}, full)
	wantTold(t, opened(t, example+"; set output 1"),
		said{"join ann a:1", "ann session 1 player 0"}, said{"join bob b:1", "bob session 2 player 1"}, said{"tick 3", "tick 3"},
		said{"counts", "hellos 2 accepted 2 refused 0 dropped 3 ignored 0"},
		said{"lives", "session 1 player 0 ann from a:1 heard 0 high 0 sent 3; session 2 player 1 bob from b:1 heard 0 high 0 sent 0"},
		said{"view bob", "error 240"})
	drives := []said{{"join ann a:1", "ann session 1 player 0"}, {"drive ann 1 1", "ok"}, {"tick", "tick 1"}, {"drive ann 1 1", "error 80"}, {"tick", "tick 2"}, {"drive ann 1 1", "ok"}}
	wantTold(t, opened(t, example+"; set rate 8; set burst 1"), drives...)
	hasty := []said{{"join zoe z:1", "error 120"}, {"join zoe z:1", "error 80"}, {"tick", "tick 1"}, {"join zoe z:1", "error 80"}, {"tick", "tick 2"}, {"join zoe z:1", "error 120"}}
	wantTold(t, opened(t, example+"; set sourcerate 8; set sourceburst 1"), hasty...)
	wantTold(t, opened(t, example+"; set idle 2"), said{"join ann a:1", "ann session 1 player 0"}, said{"tick 2", "tick 2"}, said{"bye ann", "ok"}, said{"join ann a:1", "ann session 2 player 0"}, said{"tick 3", "tick 5"}, said{"bye ann", "error 240"})
	wantTold(t, opened(t, example+"; set life 2"), said{"join zoe z:1", "error 120"}, said{"tick 2", "tick 2"}, said{"again zoe z:1", "error 120"}, said{"tick 2", "tick 4"}, said{"again zoe z:1", "error 100"})
	alone := "tick 1; car 0 ann at 786432 786432 heading 0 health 100 energy 100 ammo 20 score 0"
	both := alone + "; sees car 1 at 1835008 786432 heading 0"
	for lines, want := range map[string]string{"set radius 16": both, "set radius 15": alone, "set show 0": alone, "set show 1": both} {
		wantTold(t, opened(t, lane+"; "+lines), said{"join ann a:1", "ann session 1 player 0"}, said{"join bob b:1", "bob session 2 player 1"}, said{"tick", "tick 1"}, said{"view ann", want})
	}
}

// New: the configuration that a shell begins with.
func TestNew(t *testing.T) {
	s := opened(t, example+"; account eve; account cy; account dan")
	for i, name := range []string{"ann", "bob", "eve", "cy"} {
		digit := string([]byte{byte('0' + i)})
		wantTold(t, s, said{"join " + name + " s:" + digit, name + " session " + string([]byte{byte('1' + i)}) + " player " + digit})
	}
	wantTold(t, s, said{"join dan s:9", "error 111"})                                                                                                                                                                                                     // Sessions 4
	wantTold(t, s, said{"join dan s:9", "error 111"}, said{"join dan s:9", "error 111"}, said{"join dan s:9", "error 111"}, said{"join dan s:9", "error 80"})                                                                                             // SourceBurst 4
	wantTold(t, s, said{"tick 3", "tick 3"}, said{"join dan s:9", "error 80"}, said{"tick", "tick 4"}, said{"join dan s:9", "error 111"}, said{"join dan s:9", "error 80"})                                                                               // SourceRate 4
	wantTold(t, s, said{"tick 16", "tick 20"}, said{"join dan s:9", "error 111"}, said{"tick", "tick 21"}, said{"lives", ""})                                                                                                                             // Idle 20
	wantTold(t, s, said{"join dan s:9", "dan session 5 player 0"}, said{"bye dan", "ok"}, said{"join zoe z:1", "error 120"}, said{"tick 38", "tick 59"}, said{"again zoe z:1", "error 120"}, said{"tick", "tick 60"}, said{"again zoe z:1", "error 100"}) // Life 30
	s = opened(t, example+"; set rate 1")
	wantTold(t, s, said{"join ann a:1", "ann session 1 player 0"})
	for _, want := range []string{"ok", "ok", "ok", "ok", "error 80"} { // Burst 4
		wantTold(t, s, said{"drive ann 1 1", want})
		s.Do("tick")
	}
	s = opened(t, example+"; set burst 1")
	wantTold(t, s, said{"join ann a:1", "ann session 1 player 0"})
	for range 5 { // Rate 16
		wantTold(t, s, said{"drive ann 1 1", "ok"})
		s.Do("tick")
	}
}
