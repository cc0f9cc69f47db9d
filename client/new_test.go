package client_test

import (
	"testing"

	"joust/api"
	"joust/client"
)

// P24.1: names, secrets and nonces that may be and that may not be, all together: the name is judged first, then the secret, then the nonce.
func TestNew(t *testing.T) {
	good := []string{"a", "ann", "Z", "0", "_", "-", "abcdefghijkl", "\u00c0", "\u00ff", "\u03b1", "\u03c9", rep("\u00e9", 12)}
	bad := []string{"", " ", "a b", "ann ", "ann\x00", "abcdefghijklm", rep("\u00e9", 13), "\u00d7", "\u00f7", "\u03b0", "\u03ca", "\xff", "a\xc3", "@", "[", "`", "{", "/", ":", "\u2588", rep("x", 255), rep("x", 70000)}
	d := dice(24111)
	for i, called := range append(good, bad...) {
		for _, size := range []int{0, 1, 16, 31, 32, 33, 64, 1000} {
			for _, length := range []int{0, 1, 15, 16, 17, 32, 1000} {
				want := api.OK
				switch {
				case i >= len(good):
					want = api.ErrName
				case size != 32:
					want = api.ErrAccount
				case length != 16:
					want = api.ErrField
				}
				a, nonce := api.Account{Name: called, Secret: d.bytes(size)}, d.bytes(length)
				c, e := client.New(a, nonce)
				if e != want || (c == nil) != (want != api.OK) {
					t.Errorf("New(%q, %d bytes, %d bytes): %v, %v, want %v", called, size, length, c != nil, e, want)
				}
				if c != nil && want == api.OK {
					wantFresh(t, c, a, nonce)
				}
			}
		}
	}
}

// wantFresh asks for a client without a session, that has not said hello.
func wantFresh(t *testing.T, c *client.Client, a api.Account, nonce string) {
	t.Helper()
	p, e := plainNew(a, nonce)
	if e != api.OK {
		t.Fatal(e)
	}
	b := both{c, p, t}
	b.told("at the beginning")
	key := derive(a.Secret, "session", nonce, salt, eight(1))
	b.hear("a cookie", cookie(nonce, 1, baked))
	b.hear("a welcome", welcome(nonce, 1, 1, salt, key))
	b.hear("a snapshot", snapshot(1, 1, written(api.View{}), key))
	b.hear("a bye", bye(1, 1, key))
	b.command(api.Command{})
	b.bye()
	b.hello()
	b.hear("a cookie", cookie(nonce, 1, baked))
	b.hear("a welcome", welcome(nonce, 1, 1, salt, key))
	b.bye()
}
