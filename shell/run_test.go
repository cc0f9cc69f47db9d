package shell_test

import (
	"strings"
	"testing"

	"joust/shell"
)

// plainRun is Run by its words: Do of each line in order, up to 400 that say something.
func plainRun(text string) string {
	s := shell.New()
	told, n := "", 0
	for _, line := range strings.Split(text, "\n") {
		if says(line) {
			n++
		}
		if n == 401 {
			return told + "error 280\n"
		}
		for _, x := range s.Do(line) {
			told += x + "\n"
		}
	}
	return told
}

func wantRun(t *testing.T, text, want string) {
	t.Helper()
	if got := shell.Run(text); got != want {
		t.Errorf("Run(%q) =\n%q, want\n%q", text, got, want)
	}
}

func script(lines string) string { return strings.ReplaceAll(lines, "; ", "\n") }

// P28.3: some texts, whole.
func TestRun(t *testing.T) {
	head := script(example + "; open\n")
	wantRun(t, "", "")
	wantRun(t, "\n\n \n#\n", "")
	wantRun(t, "cars", "error 230\n")
	wantRun(t, "cars\n", "error 230\n")
	wantRun(t, "\ncars\n\ncars", "error 230\nerror 230\n")
	wantRun(t, "cars\r\ncars", "error 280\nerror 230\n")
	wantRun(t, "cars\x00\ncars\u2028cars\ncars\vcars\x85", "error 280\nerror 280\nerror 280\n")
	wantRun(t, head, "open\n")
	wantRun(t, head+"join ann a:1\ndrive ann 100 0\ntick\ncars\nboard\nlives\nbye ann\nlives\njudge", "open\nann session 1 player 0\nok\ntick 1\n"+there+"\n#####\n#S.E#\n#...#\n#A.S#\n#####\nsession 1 player 0 ann from a:1 heard 0 high 1 sent 1\nok\nclean\n")
	wantRun(t, "row ###\nrow #S #\nrow\nclear\nrow ###\nrow #S#\n\nrow ###\nopen", "open\n")
}

// P28.3: the 400th line that says something is carried out, the 401st is not; lines that say nothing are not counted, those that tell nothing are.
func TestRunMost(t *testing.T) {
	told := rep("error 230\n", 400)
	wantRun(t, rep("cars\n", 399), rep("error 230\n", 399))
	wantRun(t, rep("cars\n", 400), told)
	wantRun(t, rep("cars\n", 400)+"\n\n#\n \t\n# cars", told)
	wantRun(t, rep("cars\n", 401), told+"error 280\n")
	wantRun(t, rep("cars\n", 400)+"frob", told+"error 280\n")
	wantRun(t, rep("cars\n", 400)+"clear", told+"error 280\n")
	wantRun(t, rep("cars\n", 400)+"\n#\nrow\n\ncars\ncars", told+"error 280\n")
	wantRun(t, rep("cars\n#\n\n \n", 400), told)
	wantRun(t, rep("#\n\n \n", 1000)+"cars", "error 230\n")
	wantRun(t, rep("clear\n", 400), "")
	wantRun(t, rep("clear\n", 400)+"clear", "error 280\n")
	wantRun(t, rep("clear\n", 399)+"cars", "error 230\n")
	wantRun(t, rep("clear\n", 400)+rep("cars\n", 100), "error 280\n")
	wantRun(t, rep("row\n", 200)+rep("frob\n", 200)+"cars", rep("error 280\n", 201))
	head := script(example + "; open; join ann a:1\n")
	wantRun(t, head+rep("tick 200\n", 3)+rep("row\n", 388)+"cars", "open\nann session 1 player 0\ntick 200\ntick 400\ntick 600\nerror 280\n")
}

// P28.3, R13: Run is Do, line by line, and tells the same again; a text's first lines are told alike, whatever stands behind them.
func TestRunIsDo(t *testing.T) {
	d := dice(2236067977499)
	for range rounds(30) {
		lines := d.match(d.below(100))
		text := strings.Join(lines, "\n")
		want := plainRun(text)
		wantRun(t, text, want)
		wantRun(t, text+"\n", want)
		for n := range lines {
			first := strings.Join(lines[:n], "\n")
			told := shell.Run(first)
			if !strings.HasPrefix(want, told) {
				t.Fatalf("the first %d lines of %q tell\n%q, all\n%q", n, text, told, want)
			}
			if n%8 == 0 && !strings.HasPrefix(shell.Run(first+"\n"+d.bytes(d.below(30))), told) {
				t.Fatalf("the first %d lines of %q tell another thing ahead of other lines", n, text)
			}
		}
	}
}

// P28.3: every beginning of a text, by its bytes.
func TestRunBeginnings(t *testing.T) {
	text := script(example + "; open; join ann a:1; drive ann 100 0 fire; tick 2; cars; # so; shots; view ann; bye ann; frob; lives; counts; ledger; demo 1; judge; board; again ann b:1\n")
	want := shell.Run(text)
	for n := range len(text) + 1 {
		whole := text[:strings.LastIndexByte(text[:n], '\n')+1]
		told := shell.Run(whole)
		if got := shell.Run(text[:n]); !strings.HasPrefix(got, told) || !strings.HasPrefix(want, told) || got != plainRun(text[:n]) {
			t.Fatalf("the first %d bytes tell\n%q, its whole lines\n%q", n, got, told)
		}
	}
}

// P28.1, P28.3: texts of any bytes.
func TestRunAny(t *testing.T) {
	d := dice(2645751311064)
	for range rounds(300) {
		text := d.bytes(d.below(200))
		if d.one(2) {
			text = d.spoilt(d.spoilt(script(example + "; open; join ann a:1; tick; cars")))
		}
		wantRun(t, text, plainRun(text))
	}
	wantRun(t, rep("\xff\n", 1000), rep("error 280\n", 401))
	wantRun(t, rep("x", 1<<20), "error 280\n")
	wantRun(t, rep("\n", 1<<20), "")
}
