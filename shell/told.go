package shell

import (
	"strconv"
	"strings"

	"joust/api"
)

// one is a line of words, with a blank between any two, told by itself.
func one(words ...string) []string { return []string{line(words...)} }

// line is one of words, in memory of its own: one word joined is still the same text.
func line(words ...string) string { return strings.Clone(strings.Join(words, " ")) }

func refusal(e api.Errno) []string { return one(e.Error()) }

func tickLine(tick uint64) string { return line("tick", digits(tick)) }

func carLine(c api.Car) string {
	words := []string{"car", digits(c.Player), c.Name, place(c.At), "heading", digits(c.Heading)}
	words = append(words, "health", digits(c.Health), "energy", digits(c.Energy), "ammo", digits(c.Ammo), "score", digits(c.Score))
	if c.Wait > 0 {
		words = append(words, "wreck", digits(c.Wait))
	}
	return line(words...)
}

func carLines(s api.State) []string {
	var told []string
	for _, c := range s.Cars {
		told = append(told, carLine(c))
	}
	return told
}

func shotLine(x api.Shot) string {
	return line("shot", digits(x.Id), "player", digits(x.Player), place(x.At), "left", digits(x.Left))
}

func liveLine(x api.Live) string {
	return line("session", digits(x.Session), "player", digits(x.Player), x.Name, "from", x.From, "heard", digits(x.Heard), "high", digits(x.High), "sent", digits(x.Sent))
}

func countsLine(c api.Counts) string {
	return line("hellos", digits(c.Hellos), "accepted", digits(c.Accepted), "refused", digits(c.Refused), "dropped", digits(c.Dropped), "ignored", digits(c.Ignored))
}

func ledgerLine(l []api.Entry) string {
	kinds := map[int]int{}
	for _, x := range l {
		kinds[x.Kind]++
	}
	return line("entries", digits(len(l)), "joins", digits(kinds[api.LbJoin]), "leaves", digits(kinds[api.LbLeave]), "ticks", digits(kinds[api.LbTick]), "commands", digits(kinds[api.LbCommand]))
}

func seenLine(x api.Seen) string {
	if x.Kind == api.SeenShot {
		return line("sees shot", digits(x.Id), place(x.At))
	}
	return line("sees car", digits(x.Id), place(x.At), "heading", digits(x.Heading))
}

func findingLine(f api.Finding) string { return line("entry", digits(f.Entry), f.Code.Error()) }

func place(at api.Vec) string { return line("at", digits(at.X), digits(at.Y)) }

// digits are a number's.
func digits[T int | int64 | uint64](x T) string {
	if x < 0 {
		return strconv.FormatInt(int64(x), 10)
	}
	return strconv.FormatUint(uint64(x), 10)
}

// tell writes lines, each with its end.
func tell(all *strings.Builder, told []string) {
	for _, x := range told {
		all.WriteString(x)
		all.WriteByte('\n')
	}
}
