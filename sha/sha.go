// Package sha: SHA-256: see shared/doc/01-sha.md.
package sha

import "math/bits"

const (
	blockLen = 64
	sizeAt   = blockLen - 8 // where the last block has the message's length in bits
)

// The first 32 bits behind the point of the cube roots of the first 64 primes.
var roundWords = [64]uint32{
	0x428a2f98, 0x71374491, 0xb5c0fbcf, 0xe9b5dba5, 0x3956c25b, 0x59f111f1, 0x923f82a4, 0xab1c5ed5,
	0xd807aa98, 0x12835b01, 0x243185be, 0x550c7dc3, 0x72be5d74, 0x80deb1fe, 0x9bdc06a7, 0xc19bf174,
	0xe49b69c1, 0xefbe4786, 0x0fc19dc6, 0x240ca1cc, 0x2de92c6f, 0x4a7484aa, 0x5cb0a9dc, 0x76f988da,
	0x983e5152, 0xa831c66d, 0xb00327c8, 0xbf597fc7, 0xc6e00bf3, 0xd5a79147, 0x06ca6351, 0x14292967,
	0x27b70a85, 0x2e1b2138, 0x4d2c6dfc, 0x53380d13, 0x650a7354, 0x766a0abb, 0x81c2c92e, 0x92722c85,
	0xa2bfe8a1, 0xa81a664b, 0xc24b8b70, 0xc76c51a3, 0xd192e819, 0xd6990624, 0xf40e3585, 0x106aa070,
	0x19a4c116, 0x1e376c08, 0x2748774c, 0x34b0bcb5, 0x391c0cb3, 0x4ed8aa4a, 0x5b9cca4f, 0x682e6ff3,
	0x748f82ee, 0x78a5636f, 0x84c87814, 0x8cc70208, 0x90befffa, 0xa4506ceb, 0xbef9a3f7, 0xc67178f2,
}

// Hash is a sum that is being made.
type Hash struct {
	words  [8]uint32      // the sum of all full blocks
	block  [blockLen]byte // what waits for its block to be full
	length uint64         // bytes written; modulo blockLen of them wait
}

// New is a sum of nothing.
func New() *Hash {
	return &Hash{words: [8]uint32{
		0x6a09e667, 0xbb67ae85, 0x3c6ef372, 0xa54ff53a, 0x510e527f, 0x9b05688c, 0x1f83d9ab, 0x5be0cd19,
	}}
}

// Write goes on.
func (h *Hash) Write(p []byte) {
	for len(p) > 0 {
		n := copy(h.block[h.length%blockLen:], p)
		h.length += uint64(n)
		p = p[n:]
		if h.length%blockLen == 0 {
			h.mix()
		}
	}
}

// Sum is the sum of all that was written.
func (h *Hash) Sum() [32]byte {
	last := *h // a copy is padded, so that Write may go on
	last.pad()
	var sum [32]byte
	for i, w := range last.words {
		putWord(sum[4*i:], w)
	}
	return sum
}

// Of is the sum of parts, one behind the other.
func Of(parts ...[]byte) [32]byte {
	h := New()
	for _, p := range parts {
		h.Write(p)
	}
	return h.Sum()
}

// pad ends the message; the sum can't go on behind it.
func (h *Hash) pad() {
	held := h.length % blockLen
	h.block[held] = 0x80
	clear(h.block[held+1:])
	if held >= sizeAt { // the length finds no room in this block
		h.mix()
		clear(h.block[:])
	}
	size := h.length * 8
	putWord(h.block[sizeAt:], uint32(size>>32))
	putWord(h.block[sizeAt+4:], uint32(size))
	h.mix()
}

// mix takes the block into the sum. The letters are locals, not an array: they stay in registers.
func (h *Hash) mix() {
	words := schedule(h.block)
	a, b, c, d := h.words[0], h.words[1], h.words[2], h.words[3]
	e, f, g, last := h.words[4], h.words[5], h.words[6], h.words[7]
	for t := range words {
		x := last + bigS1(e) + ((e & f) ^ (^e & g)) + roundWords[t] + words[t]
		y := bigS0(a) + ((a & b) ^ (a & c) ^ (b & c))
		last, g, f, e = g, f, e, d+x
		d, c, b, a = c, b, a, x+y
	}
	for i, letter := range [8]uint32{a, b, c, d, e, f, g, last} {
		h.words[i] += letter
	}
}

// schedule gives a block's 64 words, one a round.
func schedule(block [blockLen]byte) [64]uint32 {
	var w [64]uint32
	for t := range 16 {
		w[t] = word(block[4*t:])
	}
	for t := 16; t < len(w); t++ {
		w[t] = smallS1(w[t-2]) + w[t-7] + smallS0(w[t-15]) + w[t-16]
	}
	return w
}

func smallS0(x uint32) uint32 { return rot(x, 7) ^ rot(x, 18) ^ x>>3 }

func smallS1(x uint32) uint32 { return rot(x, 17) ^ rot(x, 19) ^ x>>10 }

func bigS0(x uint32) uint32 { return rot(x, 2) ^ rot(x, 13) ^ rot(x, 22) }

func bigS1(x uint32) uint32 { return rot(x, 6) ^ rot(x, 11) ^ rot(x, 25) }

func rot(x uint32, n int) uint32 { return bits.RotateLeft32(x, -n) }

func word(b []byte) uint32 {
	return uint32(b[0])<<24 | uint32(b[1])<<16 | uint32(b[2])<<8 | uint32(b[3])
}

func putWord(b []byte, x uint32) {
	b[0], b[1], b[2], b[3] = byte(x>>24), byte(x>>16), byte(x>>8), byte(x)
}
