package shell_test

import (
	"crypto/hmac"
	"crypto/sha256"
	"encoding/binary"
	"encoding/hex"
	"testing"

	"joust/shell"
)

// This file speaks with a shell's server by raw lines, with the library's HMAC: so the seed, the secrets, the nonces and the draws are seen, which no line tells.

func tag(key, text string) string {
	h := hmac.New(sha256.New, []byte(key))
	h.Write([]byte(text))
	return string(h.Sum(nil))
}

func eight(x uint64) string { return string(binary.BigEndian.AppendUint64(nil, x)) }

func derive(secret, use string, parts ...string) string {
	text := use + "\x00"
	for _, x := range parts {
		text += eight(uint64(len(x))) + x
	}
	return tag(secret, text)
}

func raw(source, data string) string { return "raw " + source + " " + hex.EncodeToString([]byte(data)) }

// connect is one with the cookie of a server's first epoch.
func connect(seed, source, nonce, called string) string {
	cookie := derive(derive(derive(seed, "pool"), "cookie"), "cookie", source, nonce, eight(1))
	body := "J01\x03" + nonce + eight(1) + cookie + string([]byte{byte(len(called))}) + called
	return body + tag(tag("account", called), body)
}

func hello(nonce string) string { return "J01\x01" + nonce + rep("\x00", 76) }

func command(session, seq uint64, key string) string {
	body := "J01\x05" + eight(session) + eight(seq) + "\x01\x01\x00"
	return body + tag(key, body)
}

func bye(session, seq uint64, key string) string {
	body := "J01\x07" + eight(session) + eight(seq)
	return body + tag(key, body)
}

// The seed, and accounts' secrets: New's seed, another's, another one behind the first, one behind a clear.
func TestSeed(t *testing.T) {
	nonce := rep("n", 16)
	for lines, word := range map[string]string{"": "", "; seed x": "x", "; seed x; seed \xff\n": "\xff\n", "; seed x; clear; " + example: "x"} {
		s := opened(t, example+lines)
		seed := tag("seed", word)
		wantTold(t, s,
			said{raw("a:1", connect(tag("seed", "y"), "a:1", nonce, "ann")), "error 101"},
			said{raw("a:1", connect(seed, "a:1", nonce, "zoe")), "error 120"},
			said{raw("a:1", connect(seed, "a:1", nonce, "ann")), "ok"},
			said{"lives", "session 1 player 0 ann from a:1 heard 0 high 0 sent 0"},
		)
	}
}

// A draw's bytes go into the pool: so a session's key is known by them, and by no others.
func TestDraw(t *testing.T) {
	nonce, seed := rep("n", 16), tag("seed", "")
	pool := derive(seed, "pool")
	key := func(session uint64) string {
		salt := derive(pool, "salt", eight(session))[:16]
		return derive(tag("account", "ann"), "session", nonce, salt, eight(session))
	}
	s := opened(t, example)
	wantTold(t, s, said{raw("a:1", connect(seed, "a:1", nonce, "ann")), "ok"}, said{raw("a:1", command(1, 1, key(1))), "ok"}, said{raw("a:1", bye(1, 2, key(1))), "ok"})
	for i, word := range []string{"rain", "x", "\xff"} {
		session := uint64(i + 2)
		old := key(session)
		wantTold(t, s, said{"draw " + word, ""})
		pool = derive(pool, "draw", tag("draw", word))
		wantTold(t, s,
			said{raw("a:1", connect(seed, "a:1", nonce, "ann")), "ok"},
			said{raw("a:1", command(session, 1, old)), "error 124"},
			said{raw("a:1", command(session, 1, key(session))), "ok"},
			said{raw("a:1", bye(session, 2, key(session))), "ok"},
		)
	}
	wantTold(t, s, said{"judge", "clean"}, said{"counts", "hellos 0 accepted 12 refused 3 dropped 0 ignored 0"})
}

// A client's nonce: a hello with it from anywhere brings the client a cookie, and it connects, if it has no session. That is carried, though the raw line tells of the hello alone.
func TestNonce(t *testing.T) {
	s := opened(t, example)
	nonce := func(called string) string { return tag("nonce", called)[:16] }
	wantTold(t, s, said{"join ann a:1", "ann session 1 player 0"}, said{"bye ann", "ok"}, said{"drive ann 1 1", "error 240"})
	wantTold(t, s, said{raw("a:1", hello(nonce("Ann"))), "ok"}, said{"drive ann 1 1", "error 240"}, said{raw("b:1", hello(nonce("ann"))), "ok"}, said{"drive ann 1 1", "error 240"}, said{"again ann a:1", "error 122"})
	wantTold(t, s, said{raw("a:1", hello(nonce("ann"))), "ok"}, said{"lives", "session 2 player 0 ann from a:1 heard 0 high 0 sent 0"}, said{"drive ann 1 1", "ok"})
	wantTold(t, s, said{"join zoe z:1", "error 120"}, said{raw("z:1", hello(nonce("zoe"))), "ok"}, said{"counts", "hellos 6 accepted 4 refused 3 dropped 0 ignored 0"}, said{"again zoe z:1", "error 120"}, said{"view zoe", "error 240"})
	wantTold(t, s, said{"tick", "tick 1"}, said{"again zoe z:1", "error 120"}, said{raw("z:1", hello(nonce("zoe"))), "ok"}, said{"again zoe z:1", "error 80"}, said{"judge", "clean"})
}

// The referee has the keys of all sessions that there ever were: of those by raw lines, and of those that are over.
func TestKeys(t *testing.T) {
	nonce, seed := rep("n", 16), tag("seed", "")
	s := opened(t, example+"; set idle 3; set life 1000; set sourceburst 1000")
	salt := func(session uint64) string { return derive(derive(seed, "pool"), "salt", eight(session))[:16] }
	for i := range uint64(40) {
		session := i + 1
		key := derive(tag("account", "bob"), "session", nonce, salt(session), eight(session))
		wantTold(t, s, said{raw("b:1", connect(seed, "b:1", nonce, "bob")), "ok"}, said{raw("b:1", command(session, 1, key)), "ok"}, said{"judge", "clean"})
		if i%2 == 0 {
			wantTold(t, s, said{raw("b:1", bye(session, 2, key)), "ok"})
		} else {
			s.Do("tick 4")
		}
		wantTold(t, s, said{"lives", ""}, said{"judge", "clean"})
	}
}

// Nothing of one shell is another's.
func TestShells(t *testing.T) {
	one, other := opened(t, example), shell.New()
	wantTold(t, other, said{"cars", "error 230"}, said{"open", "error 140"})
	wantTold(t, one, said{"join ann a:1", "ann session 1 player 0"})
	quiet(t, other, example+"; open")
	wantTold(t, other, said{"drive ann 1 1", "error 60"}, said{"lives", ""}, said{"join ann a:1", "ann session 1 player 0"})
	wantTold(t, one, said{"drive ann 1 1", "ok"})
}
