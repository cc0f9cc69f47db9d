package cookie

import (
	"joust/api"
	"joust/mac"
)

// epochLen is how many bytes an epoch has in a cookie.
const epochLen = 8

// secret has the epoch's bytes, the highest first, and behind them its key. Epochs are from 1 on: so the secret of an epoch is never the empty one, whatever its key is.
type secret [epochLen + api.TagLen]byte

// of is the secret of an epoch with this key.
func of(epoch uint64, key string) secret {
	var s secret
	for i := range epochLen {
		s[i] = byte(epoch >> (8 * (epochLen - 1 - i)))
	}
	copy(s[epochLen:], key)
	return s
}

func (s secret) epoch() uint64 {
	var n uint64
	for _, b := range s[:epochLen] {
		n = n<<8 | uint64(b)
	}
	return n
}

func (s secret) key() string { return string(s[epochLen:]) }

// bake makes the cookie of this secret's epoch. The epoch stands in it, so that a secret that came twice would not make one epoch's cookies another's.
func (s secret) bake(from, nonce string) string {
	return mac.Derive(s.key(), "cookie", from, nonce, string(s[:epochLen]))
}
