package client_test

import (
	"testing"

	"joust/api"
	"joust/view"
)

// stranger is any datagram that the session's key did not seal, and no welcome that begins one: forged ones, others', old ones, those of kinds that a client says.
func (k *post) stranger(right []string) string {
	for {
		s := k.letter()
		if len(right) > 0 && k.one(3) {
			s = k.turned(pick(k.dice, right...))
		}
		if !k.sealedNow(s) {
			return s
		}
	}
}

// sealedNow tells whether a text is sealed under the session's key, or is a welcome that begins a session.
func (k *post) sealedNow(s string) bool {
	if len(s) < 36 {
		return false
	}
	if k.p.has && isSealed(s, k.p.key) {
		return true
	}
	return form(s) == api.OK && s[3] == 4 && isSealed(s, derive(k.p.account.Secret, "session", k.p.nonce, s[29:45], s[20:28]))
}

// P24.7: of two clients that do the same, one hears strangers' datagrams between: it answers them by nothing but connects, and to all else as the other one does.
func TestStrangers(t *testing.T) {
	d := dice(2470)
	heard := map[int]int{}
	for range rounds(150) {
		k, p := d.post(t)
		alone, amid := both{begun(t, p.account, p.nonce), p, t}, begun(t, p.account, p.nonce)
		var right []string
		for range 60 {
			for range k.below(8) {
				data := k.stranger(right)
				before, _ := p.Hear(data)
				heard[kindOf(data)]++
				s, e := amid.Hear(data)
				if s != before || s != "" && (kindOf(data) != api.KdCookie || kindOf(s) != api.KdConnect || p.has) {
					t.Fatalf("%q is answered by %q, %v", data, s, e)
				}
				if e == api.OK && s == "" {
					t.Fatalf("%q is believed", data)
				}
				wantSame(t, amid, alone.c)
			}
			call, data := k.honest()
			right = append(right, data)
			s, e := alone.answer("amid strangers", call)
			if again, f := call(amid); again != s || f != e {
				t.Fatalf("amid strangers: %q, %v, want %q, %v", again, f, s, e)
			}
			wantSame(t, amid, alone.c)
		}
		if probe(amid) != probe(alone.c) {
			t.Fatal("strangers have changed something")
		}
	}
	for kind := range 8 {
		if heard[kind] < 20 && !testing.Short() {
			t.Errorf("kind %d came only %d times", kind, heard[kind])
		}
	}
}

// honest is a call that is right now, and the datagram in it, if it hears one.
func (k *post) honest() (func(c clients) (string, api.Errno), string) {
	if !k.p.said {
		return clients.Hello, ""
	}
	data := ""
	switch n := k.below(20); {
	case !k.p.has && n < 5:
		return clients.Hello, ""
	case !k.p.has && n < 10:
		data = cookie(k.p.nonce, k.word(), baked)
	case !k.p.has:
		session, salt := k.p.most+1, k.bytes(16)
		data = welcome(k.p.nonce, session, byte(n), salt, derive(k.p.account.Secret, "session", k.p.nonce, salt, eight(session)))
	case n < 10:
		data = snapshot(k.p.session, k.p.last+1, written(k.view()), k.p.key)
	case n < 11:
		data = bye(k.p.session, k.p.last+1, k.p.key)
	case n < 12:
		return clients.Bye, ""
	default:
		x := k.command()
		return func(c clients) (string, api.Errno) { return c.Command(x) }, ""
	}
	return func(c clients) (string, api.Errno) { return c.Hear(data) }, data
}

// wantSame asks two clients for one tale.
func wantSame(t *testing.T, c, other clients) {
	t.Helper()
	session, player, is := c.Playing()
	if s, p, i := other.Playing(); session != s || player != p || is != i {
		t.Fatalf("Playing: %d, %d, %v, want %d, %d, %v", session, player, is, s, p, i)
	}
	v, has := c.View()
	if w, h := other.View(); has != h || !view.Equal(v, w) {
		t.Fatalf("View: %+v, %v, want %+v, %v", v, has, w, h)
	}
}

// P24.7: datagrams of an account's other clients are strangers' too: those with another nonce, and those of a session that is over.
func TestTwoClientsOfOneAccount(t *testing.T) {
	one, other := begin(t, ann, nonce), begin(t, ann, salt)
	key := derive(secret, "session", salt, salt, eight(6))
	for _, x := range []both{one, other} {
		x.hello()
	}
	for _, x := range []struct {
		what, data string
		one, other api.Errno
	}{
		{"the one's welcome", welcomeTo(5), api.OK, api.ErrState},
		{"the other's welcome", welcome(salt, 6, 2, salt, key), api.ErrState, api.OK},
		{"the one's snapshot", seen(5, 1, 1), api.OK, api.ErrState},
		{"the other's snapshot", snapshot(6, 1, written(viewAt(2)), key), api.ErrState, api.OK},
		{"the other's number under the one's key", snapshot(6, 2, written(viewAt(3)), keyOf(5)), api.ErrState, api.ErrTag},
		{"the one's number under the other's key", snapshot(5, 2, written(viewAt(3)), key), api.ErrTag, api.ErrState},
		{"the other's bye", bye(6, 2, key), api.ErrState, api.OK},
		{"the one's snapshot, later", seen(5, 2, 4), api.OK, api.ErrState},
	} {
		if _, e := one.hear(x.what, x.data); e != x.one {
			t.Errorf("%s: the one: %v, want %v", x.what, e, x.one)
		}
		if _, e := other.hear(x.what, x.data); e != x.other {
			t.Errorf("%s: the other: %v, want %v", x.what, e, x.other)
		}
	}
}
