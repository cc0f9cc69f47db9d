package client_test

import (
	"crypto/hmac"
	"crypto/sha256"
	"encoding/binary"
	"slices"
	"strings"

	"joust/api"
	"joust/client"
	"joust/name"
	"joust/snap"
)

// clients are what a client and a plain one can be asked alike.
type clients interface {
	Hello() (string, api.Errno)
	Hear(data string) (string, api.Errno)
	Command(x api.Command) (string, api.Errno)
	Bye() (string, api.Errno)
	Playing() (uint64, int, bool)
	View() (api.View, bool)
}

var (
	_ clients = (*client.Client)(nil)
	_ clients = (*plain)(nil)
)

// plain is a client as the chapter tells it, over bytes, with the library's HMAC. Names and views' bytes are those of the layers below, which have tests of their own.
type plain struct {
	account api.Account
	nonce   string
	said    bool // hello
	has     bool // a session: the next five are its own
	session uint64
	player  int
	key     string
	seq     uint64
	last    uint64
	most    uint64 // the greatest number of a session
	viewed  bool
	view    api.View
}

func plainNew(a api.Account, nonce string) (*plain, api.Errno) {
	if name.Check(a.Name) != api.OK {
		return nil, api.ErrName
	}
	if len(a.Secret) != 32 {
		return nil, api.ErrAccount
	}
	if len(nonce) != 16 {
		return nil, api.ErrField
	}
	return &plain{account: a, nonce: nonce}, api.OK
}

func (p *plain) Hello() (string, api.Errno) {
	if p.has {
		return "", api.ErrState
	}
	p.said = true
	return hello(p.nonce), api.OK
}

func (p *plain) Hear(data string) (string, api.Errno) {
	if e := form(data); e != api.OK {
		return "", e
	}
	switch data[3] {
	case 2:
		return p.cookie(data)
	case 4:
		return "", p.welcome(data)
	case 6:
		return "", p.snapshot(data)
	case 7:
		return "", p.dismissed(data)
	}
	return "", api.ErrKind
}

func (p *plain) cookie(data string) (string, api.Errno) {
	if p.has || !p.said || data[4:20] != p.nonce {
		return "", api.ErrState
	}
	called := p.account.Name
	return sealed("J01\x03"+p.nonce+data[20:60]+string([]byte{byte(len(called))})+called, p.account.Secret), api.OK
}

func (p *plain) welcome(data string) api.Errno {
	if p.has || !p.said || data[4:20] != p.nonce {
		return api.ErrState
	}
	session := number(data[20:28])
	if session <= p.most {
		return api.ErrStale
	}
	key := derive(p.account.Secret, "session", p.nonce, data[29:45], data[20:28])
	if !isSealed(data, key) {
		return api.ErrTag
	}
	p.has, p.session, p.player, p.key, p.seq, p.last, p.most = true, session, int(data[28]), key, 0, 0, session
	return api.OK
}

// judged is what a snapshot and a bye are refused by alike.
func (p *plain) judged(data string) api.Errno {
	if !p.has || number(data[4:12]) != p.session {
		return api.ErrState
	}
	if !isSealed(data, p.key) {
		return api.ErrTag
	}
	if number(data[12:20]) <= p.last {
		return api.ErrStale
	}
	return api.OK
}

func (p *plain) snapshot(data string) api.Errno {
	if e := p.judged(data); e != api.OK {
		return e
	}
	v, e := snap.Read(data[20 : len(data)-32])
	if e != api.OK {
		return e
	}
	p.last, p.viewed, p.view = number(data[12:20]), true, v
	return api.OK
}

func (p *plain) dismissed(data string) api.Errno {
	if e := p.judged(data); e != api.OK {
		return e
	}
	p.has = false
	return api.OK
}

func (p *plain) Command(x api.Command) (string, api.Errno) {
	if !p.has {
		return "", api.ErrState
	}
	if x.Throttle < -128 || x.Throttle > 127 || x.Turn < -128 || x.Turn > 127 {
		return "", api.ErrField
	}
	flags := byte(0)
	if x.Fire {
		flags++
	}
	if x.Boost {
		flags += 2
	}
	p.seq++
	return sealed("J01\x05"+eight(p.session)+eight(p.seq)+string([]byte{byte(x.Throttle), byte(x.Turn), flags}), p.key), api.OK
}

func (p *plain) Bye() (string, api.Errno) {
	if !p.has {
		return "", api.ErrState
	}
	p.seq++
	p.has = false
	return bye(p.session, p.seq, p.key), api.OK
}

func (p *plain) Playing() (uint64, int, bool) {
	if !p.has {
		return 0, 0, false
	}
	return p.session, p.player, true
}

func (p *plain) View() (api.View, bool) {
	v := p.view
	v.Seen = slices.Clone(v.Seen)
	return v, p.viewed
}

// tag is HMAC with SHA-256.
func tag(key, text string) string {
	h := hmac.New(sha256.New, []byte(key))
	h.Write([]byte(text))
	return string(h.Sum(nil))
}

func sealed(body, key string) string { return body + tag(key, body) }

func isSealed(data, key string) bool { return data == sealed(data[:len(data)-32], key) }

func eight(x uint64) string { return string(binary.BigEndian.AppendUint64(nil, x)) }

func number(s string) uint64 { return binary.BigEndian.Uint64([]byte(s)) }

// derive is R4's.
func derive(secret, use string, parts ...string) string {
	text := use + "\x00"
	for _, x := range parts {
		text += eight(uint64(len(x))) + x
	}
	return tag(secret, text)
}

// form is what frame refuses.
func form(data string) api.Errno {
	switch {
	case len(data) > 1200:
		return api.ErrLength
	case !strings.HasPrefix(data, "J01"):
		return api.ErrMagic
	case len(data) < 4 || data[3] < 1 || data[3] > 7:
		return api.ErrKind
	}
	length := []int{0, 96, 60, 93, 77, 55, 52, 52}[data[3]]
	switch {
	case len(data) < length:
		return api.ErrLength
	case data[3] == 3 && len(data) != length+int(data[60]), data[3] != 3 && data[3] != 6 && len(data) != length:
		return api.ErrLength
	case data[3] == 1 && strings.Trim(data[20:], "\x00") != "", data[3] == 5 && data[22] > 3:
		return api.ErrField
	}
	return api.OK
}

// The datagrams, byte by byte (R3).

func hello(nonce string) string { return "J01\x01" + nonce + rep("\x00", 76) }

func cookie(nonce string, epoch uint64, text string) string {
	return "J01\x02" + nonce + eight(epoch) + text
}

func connect(nonce string, epoch uint64, text, called, secret string) string {
	return sealed("J01\x03"+nonce+eight(epoch)+text+string([]byte{byte(len(called))})+called, secret)
}

func welcome(nonce string, session uint64, player byte, salt, key string) string {
	return sealed("J01\x04"+nonce+eight(session)+string([]byte{player})+salt, key)
}

func snapshot(session, seq uint64, data, key string) string {
	return sealed("J01\x06"+eight(session)+eight(seq)+data, key)
}

func bye(session, seq uint64, key string) string {
	return sealed("J01\x07"+eight(session)+eight(seq), key)
}
