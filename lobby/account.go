package lobby

import (
	"strings"

	"joust/api"
	"joust/mac"
	"joust/name"
)

// key is an account's secret, or a session's key: an array, so that a copy shares nothing.
type key [api.TagLen]byte

func (k key) text() string { return string(k[:]) }

// derive makes a session's key of an account's secret. The session's number stands in it, so that no two sessions have one, though nonce and salt come again.
func (k key) derive(nonce, salt string, session uint64) key {
	var number [8]byte
	for i := range number {
		number[i] = byte(session >> (56 - 8*i))
	}
	var derived key
	copy(derived[:], mac.Derive(k.text(), "session", nonce, salt, string(number[:])))
	return derived
}

type account struct {
	name   string
	secret key
}

type accounts []account

// copyAccounts has the same accounts in memory of its own, and false if they may not be.
func copyAccounts(list []api.Account) (accounts, bool) {
	if len(list) > api.MaxAccounts {
		return nil, false
	}
	var copied accounts
	for _, a := range list {
		_, twice := copied.find(a.Name)
		if twice || name.Check(a.Name) != api.OK || len(a.Secret) != api.TagLen {
			return nil, false
		}
		x := account{name: strings.Clone(a.Name)}
		copy(x.secret[:], a.Secret)
		copied = append(copied, x)
	}
	return copied, true
}

// find tells at which place the account stands that is found by a name.
func (l accounts) find(called string) (int, bool) {
	if name.Check(called) != api.OK {
		return 0, false
	}
	for i, a := range l {
		if name.Same(a.name, called) {
			return i, true
		}
	}
	return 0, false
}
