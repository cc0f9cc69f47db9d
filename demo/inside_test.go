package demo

import (
	"errors"
	"strings"
	"testing"

	"joust/api"
	"joust/board"
)

// Inside, a text that was cut is told from one with a bad sum, and both from one of another form (chapter 26, 'Ways').
func TestWhatIsWrong(t *testing.T) {
	b, e := board.Parse("###\n#S#\n###")
	if e != api.OK {
		t.Fatal(e)
	}
	d, e := Record(b, []api.Label{{Kind: api.LbJoin, Name: "ann"}, {Kind: api.LbTick, Intents: []api.Intent{{Fire: true}}}, {Kind: api.LbLeave}})
	if e != api.OK {
		t.Fatal(e)
	}
	text := d.Write()
	if _, err := read(b, text); err != nil {
		t.Fatal(err)
	}
	want := func(what, s string, want error) {
		t.Helper()
		if l, err := read(b, s); !errors.Is(err, want) || l != nil {
			t.Errorf("%s: %v, want %v", what, err, want)
		}
	}
	for i := range text {
		want("cut", text[:i], errCut)
	}
	for i := len(text) - sumLen; i < len(text); i++ {
		want("another sum", text[:i]+string([]byte{text[i] ^ 1})+text[i+1:], errSum)
	}
	want("another name", strings.Replace(text, "ann", "bob", 1), errSum)
	want("another head", "JB01"+text[4:], errForm)
	want("another board", text[:4]+string([]byte{text[4] ^ 1})+text[5:], errForm)
	want("bytes behind the end", text+"\x00", errForm)
	want("a kind that is none", text[:40]+"\x04"+text[41:], errForm)
	want("flags that are none", strings.Replace(text, "\x03\x01\x00\x00\x00\x01", "\x03\x01\x00\x00\x00\x04", 1), errForm)
}
