package shell_test

import (
	"slices"
	"strconv"
	"strings"
	"testing"

	"joust/shell"
)

// This file is P28.4 to P28.6: what only looks.

// everyLook is each of the lines that change nothing, with names and ticks that there are and that there are not.
var everyLook = []string{"cars", "shots", "lives", "counts", "ledger", "view ann", "view bob", "view zoe", "view a$", "judge", "demo 0", "demo 1", "demo 5", "demo 33", "demo -1", "demo 999999", "board"}

// P28.5: a shell that is looked at between any lines tells of them what one tells that is not; and what is told by a look is told again.
func TestLookingChangesNothing(t *testing.T) {
	d := dice(3316624790355)
	for range rounds(40) {
		s, alone := shell.New(), shell.New()
		for _, line := range d.match(100) {
			for range d.below(4) {
				look := pick(&d, everyLook...)
				if first, again := s.Do(look), s.Do(look); !slices.Equal(first, again) {
					t.Fatalf("%q tells\n%q, then\n%q", look, first, again)
				}
			}
			if got, want := s.Do(line), alone.Do(line); !slices.Equal(got, want) {
				t.Fatalf("behind looks %q tells\n%q, want\n%q", line, got, want)
			}
		}
		for _, look := range everyLook {
			if got, want := s.Do(look), alone.Do(look); !slices.Equal(got, want) {
				t.Fatalf("behind looks %q tells\n%q, want\n%q", look, got, want)
			}
		}
	}
}

// P28.5: each look by itself, ahead of each line of a match and between any two.
func TestEachLook(t *testing.T) {
	lines := strings.Split(lane+"; open; join ann s:1; join bob s:1; drive ann 100 1 fire; again ann x; drive ann 1 1; tick 3; drive bob 50 0 boost fire; tick; draw x; bye bob; join bob b:1; tick 35; raw x 4a; join ann a:1; again ann a:1; cars; shots; lives; counts; ledger; view ann; view bob; demo 2; open; cars", "; ")
	var want [][]string
	alone := shell.New()
	for _, line := range lines {
		want = append(want, alone.Do(line))
	}
	for _, look := range everyLook {
		s := shell.New()
		for i, line := range lines {
			s.Do(look)
			if got := s.Do(line); !slices.Equal(got, want[i]) {
				t.Fatalf("behind %q, %q tells\n%q, want\n%q", look, line, got, want[i])
			}
		}
	}
}

// P28.4, P0.7: behind each of any lines judge tells clean, while there is a server.
func TestJudged(t *testing.T) {
	d := dice(3605551275463)
	judged := 0
	for range rounds(60) {
		s := shell.New()
		open := false
		for _, line := range d.match(120) {
			told := s.Do(line)
			if strings.TrimSpace(line) == "open" {
				open = slices.Equal(told, []string{"open"})
			}
			want := "error 230"
			if open {
				want = "clean"
				judged++
			}
			wantTold(t, s, said{"judge", want})
		}
	}
	if judged < rounds(3000) {
		t.Errorf("only %d are judged", judged)
	}
}

// P28.6, P0.6: demo of the arena's tick tells the cars as they were right behind that tick's label, then and at any later time.
func TestDemo(t *testing.T) {
	d := dice(3872983346207)
	for range rounds(25) {
		s := shell.New()
		for _, line := range d.setup() {
			s.Do(line)
		}
		wantTold(t, s, said{"clear", ""})
		if slices.Equal(s.Do("cars"), []string{"error 230"}) {
			continue
		}
		seen := [][]string{{"tick 0"}}
		for range 70 {
			for range d.below(6) {
				if line := d.play(); !strings.HasPrefix(line, "tick") {
					s.Do(line)
				}
			}
			told := s.Do("tick")
			seen = append(seen, append(told, s.Do("cars")...))
			if want := "tick " + strconv.Itoa(len(seen)-1); told[0] != want {
				t.Fatalf("told %q, want %q", told, want)
			}
			wantDemo(t, s, len(seen)-1, seen)
			wantDemo(t, s, d.below(len(seen)), seen)
		}
		for tick := range seen {
			wantDemo(t, s, tick, seen)
		}
		wantTold(t, s, said{"demo " + strconv.Itoa(len(seen)), "error 261"}, said{"demo 999999", "error 261"}, said{"demo -1", "error 261"})
	}
}

func wantDemo(t *testing.T, s *shell.Shell, tick int, seen [][]string) {
	t.Helper()
	if got := s.Do("demo " + strconv.Itoa(tick)); !slices.Equal(got, seen[tick]) {
		t.Fatalf("demo %d tells\n%q, want\n%q", tick, got, seen[tick])
	}
}

// Behind a tick cars come and go: demo tells of the tick.
func TestDemoBetween(t *testing.T) {
	s := opened(t, example)
	ann := "car 0 ann at 786432 786432 heading 0 health 100 energy 100 ammo 20 score 0"
	bob := "car 1 bob at 1835008 1835008 heading 0 health 100 energy 100 ammo 20 score 0"
	wantTold(t, s,
		said{"join ann a:1", "ann session 1 player 0"}, said{"demo 0", "tick 0"}, said{"tick", "tick 1"}, said{"demo 1", "tick 1; " + ann}, said{"join bob b:1", "bob session 2 player 1"}, said{"cars", ann + "; " + bob}, said{"demo 1", "tick 1; " + ann},
		said{"tick", "tick 2"}, said{"demo 2", "tick 2; " + ann + "; " + bob}, said{"bye ann", "ok"}, said{"cars", bob}, said{"demo 2", "tick 2; " + ann + "; " + bob}, said{"tick", "tick 3"}, said{"demo 3", "tick 3; " + bob}, said{"demo 0", "tick 0"}, said{"demo 4", "error 261"},
	)
}
