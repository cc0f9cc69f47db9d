package demo_test

import (
	"crypto/sha256"
	"encoding/binary"

	"joust/api"
	"joust/board"
	"joust/rule"
)

// This file is 26.4 and 26.5, byte by byte, without pack and sha.

// summed lays the sum behind bytes, so that whatever they say is looked at.
func summed(body string) string {
	sum := sha256.Sum256([]byte(body))
	return body + string(sum[:])
}

func plainHead(b *board.Board) string { return summed(b.Print())[len(b.Print()):] }

// plainBody is what is written ahead of the last sum.
func plainBody(b *board.Board, l []api.Label) string {
	text := binary.BigEndian.AppendUint32([]byte("JD01"+plainHead(b)), uint32(len(l)))
	for _, x := range l {
		text = append(text, byte(x.Kind))
		switch x.Kind {
		case 1:
			text = append(text, byte(x.Player))
			text = binary.BigEndian.AppendUint32(text, uint32(len(x.Name)))
			text = append(text, x.Name...)
		case 2:
			text = append(text, byte(x.Player))
		case 3:
			text = append(text, byte(len(x.Intents)))
			for _, i := range x.Intents {
				text = append(text, byte(i.Player), byte(int8(i.Throttle)), byte(int8(i.Turn)), plainFlags(i))
			}
		}
	}
	return string(text)
}

func plainFlags(i api.Intent) byte {
	switch {
	case i.Fire && i.Boost:
		return 3
	case i.Boost:
		return 2
	case i.Fire:
		return 1
	}
	return 0
}

func plainWrite(b *board.Board, l []api.Label) string { return summed(plainBody(b, l)) }

// tape is a text that is gone through. It gives up where the text ends.
type tape struct {
	text string
	out  bool
}

func (p *tape) bytes(n int) string {
	if n > len(p.text) {
		p.out = true
		return string(make([]byte, min(n, 4)))
	}
	s := p.text[:n]
	p.text = p.text[n:]
	return s
}

func (p *tape) one() byte { return p.bytes(1)[0] }

func (p *tape) four() uint32 { return binary.BigEndian.Uint32([]byte(p.bytes(4))) }

// plainForm takes the labels of a text that is of the form from its first byte to its last, and has its own sum.
func plainForm(b *board.Board, s string) ([]api.Label, bool) {
	if len(s) < 72 || s[:36] != "JD01"+plainHead(b) || summed(s[:len(s)-32]) != s {
		return nil, false
	}
	p := &tape{text: s[36 : len(s)-32]}
	var l []api.Label
	for n := p.four(); n > 0; n-- {
		x := api.Label{Kind: int(p.one())}
		switch x.Kind {
		case 1:
			x.Player = int(p.one())
			x.Name = p.bytes(int(p.four()))
		case 2:
			x.Player = int(p.one())
		case 3:
			for range p.one() {
				i := api.Intent{Player: int(p.one()), Throttle: int(int8(p.one())), Turn: int(int8(p.one()))}
				flags := p.one()
				i.Fire, i.Boost = flags == 1 || flags == 3, flags == 2 || flags == 3
				x.Intents = append(x.Intents, i)
				if flags > 3 {
					return nil, false
				}
			}
		default:
			return nil, false
		}
		if p.out {
			return nil, false
		}
		l = append(l, x)
	}
	return l, p.text == ""
}

// plainRead takes what Read must take.
func plainRead(b *board.Board, s string) ([]api.Label, bool) {
	l, is := plainForm(b, s)
	if !is {
		return nil, false
	}
	if _, e := rule.Run(b, l); e != api.OK {
		return nil, false
	}
	return l, true
}
