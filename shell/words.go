package shell

import (
	"strings"

	"joust/api"
)

const (
	blanks    = " \t"
	remark    = "#"
	numberLen = 6 // digits at most
)

// words are a line's, taken one by one. A line that has not the form that is asked for is broken off by a panic.
type words struct{ left string }

// silent tells whether a line says nothing.
func silent(line string) bool {
	w := words{left: line}
	first := w.next()
	return first == "" || strings.HasPrefix(first, remark)
}

// want breaks the line off, if not ok.
func want(ok bool) {
	if !ok {
		panic(api.ErrLine)
	}
}

// next takes the next word, as a copy, since names and sources are kept; "" if none is left.
func (w *words) next() string {
	word := strings.TrimLeft(w.left, blanks)
	w.left = ""
	for i, r := range word {
		if r == ' ' || r == '\t' {
			word, w.left = word[:i], word[i:]
			break
		}
	}
	return strings.Clone(word)
}

// word takes one that must be there.
func (w *words) word() string {
	x := w.next()
	want(x != "")
	return x
}

// end wants no word to be left.
func (w *words) end() { want(w.next() == "") }

// rest is all that stands behind the one blank behind the last word.
func (w *words) rest() string { return w.left[min(1, len(w.left)):] }

// number takes an N.
func (w *words) number() int { return number(w.word()) }

// number is the one that a word is an N of.
func number(word string) int {
	text, minus := strings.CutPrefix(word, "-")
	want(text != "" && len(text) <= numberLen)
	n := 0
	for _, r := range text {
		want(r >= '0' && r <= '9')
		n = n*10 + int(r-'0')
	}
	if minus {
		return -n
	}
	return n
}

// bytes takes a HEX, which may lack.
func (w *words) bytes() string {
	hex := w.next()
	want(len(hex)%2 == 0)
	data := make([]byte, len(hex)/2)
	for i, r := range hex {
		data[i/2] = data[i/2]<<4 | digit(r)
	}
	return string(data)
}

// digit is what a digit of a HEX counts.
func digit(r rune) byte {
	switch {
	case r >= '0' && r <= '9':
		return byte(r - '0')
	case r >= 'a' && r <= 'f':
		return byte(r - 'a' + 10)
	case r >= 'A' && r <= 'F':
		return byte(r - 'A' + 10)
	}
	panic(api.ErrLine)
}

// command takes all that is left of a drive: throttle, turn, flags.
func (w *words) command() api.Command {
	x := api.Command{Throttle: w.number(), Turn: w.number()}
	for flag := w.next(); flag != ""; flag = w.next() {
		switch {
		case flag == "fire" && !x.Fire:
			x.Fire = true
		case flag == "boost" && !x.Boost:
			x.Boost = true
		default:
			panic(api.ErrLine)
		}
	}
	return x
}
