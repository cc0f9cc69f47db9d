package client_test

import (
	"testing"

	"joust/api"
	"joust/view"
)

// both are a client and a plain one, of which all is asked alike: one answer, and one tale behind it.
type both struct {
	c, p clients
	t    *testing.T
}

func begin(t *testing.T, a api.Account, nonce string) both {
	t.Helper()
	p, e := plainNew(a, nonce)
	if e != api.OK {
		t.Fatal(e)
	}
	return both{begun(t, a, nonce), p, t}
}

// told asks for one tale (P24.6).
func (b both) told(what string) {
	b.t.Helper()
	session, player, is := b.c.Playing()
	if s, p, i := b.p.Playing(); session != s || player != p || is != i {
		b.t.Fatalf("%s: Playing: %d, %d, %v, want %d, %d, %v", what, session, player, is, s, p, i)
	}
	v, has := b.c.View()
	if w, h := b.p.View(); has != h || !view.Equal(v, w) {
		b.t.Fatalf("%s: View: %+v, %v, want %+v, %v", what, v, has, w, h)
	}
}

// answer compares two answers, and gives the one.
func (b both) answer(what string, call func(c clients) (string, api.Errno)) (string, api.Errno) {
	b.t.Helper()
	s, e := call(b.c)
	want, wantE := call(b.p)
	if s != want || e != wantE {
		b.t.Fatalf("%s: %q, %v, want %q, %v", what, s, e, want, wantE)
	}
	b.told(what)
	return s, e
}

func (b both) hello() (string, api.Errno) {
	b.t.Helper()
	return b.answer("Hello", clients.Hello)
}

func (b both) hear(what, data string) (string, api.Errno) {
	b.t.Helper()
	return b.answer(what, func(c clients) (string, api.Errno) { return c.Hear(data) })
}

func (b both) command(x api.Command) (string, api.Errno) {
	b.t.Helper()
	return b.answer("Command", func(c clients) (string, api.Errno) { return c.Command(x) })
}

func (b both) bye() (string, api.Errno) {
	b.t.Helper()
	return b.answer("Bye", clients.Bye)
}
