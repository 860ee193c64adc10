// Package sha: digests by SHA-256 (FIPS 180-4).
package sha

import "math/bits"

// block is how many bytes are mixed in at a time.
const block = 64

var rounds = [64]uint32{
	0x428a2f98, 0x71374491, 0xb5c0fbcf, 0xe9b5dba5, 0x3956c25b, 0x59f111f1, 0x923f82a4, 0xab1c5ed5,
	0xd807aa98, 0x12835b01, 0x243185be, 0x550c7dc3, 0x72be5d74, 0x80deb1fe, 0x9bdc06a7, 0xc19bf174,
	0xe49b69c1, 0xefbe4786, 0x0fc19dc6, 0x240ca1cc, 0x2de92c6f, 0x4a7484aa, 0x5cb0a9dc, 0x76f988da,
	0x983e5152, 0xa831c66d, 0xb00327c8, 0xbf597fc7, 0xc6e00bf3, 0xd5a79147, 0x06ca6351, 0x14292967,
	0x27b70a85, 0x2e1b2138, 0x4d2c6dfc, 0x53380d13, 0x650a7354, 0x766a0abb, 0x81c2c92e, 0x92722c85,
	0xa2bfe8a1, 0xa81a664b, 0xc24b8b70, 0xc76c51a3, 0xd192e819, 0xd6990624, 0xf40e3585, 0x106aa070,
	0x19a4c116, 0x1e376c08, 0x2748774c, 0x34b0bcb5, 0x391c0cb3, 0x4ed8aa4a, 0x5b9cca4f, 0x682e6ff3,
	0x748f82ee, 0x78a5636f, 0x84c87814, 0x8cc70208, 0x90befffa, 0xa4506ceb, 0xbef9a3f7, 0xc67178f2,
}

// Hash is a digest in the making: the state after all whole blocks, and what is left over.
type Hash struct {
	state [8]uint32
	rest  [block]byte
	n     int
}

// New is a Hash to which nothing was written.
func New() *Hash {
	h := &Hash{}
	h.Reset()
	return h
}

// Reset makes h as new.
func (h *Hash) Reset() {
	*h = Hash{state: [8]uint32{
		0x6a09e667, 0xbb67ae85, 0x3c6ef372, 0xa54ff53a, 0x510e527f, 0x9b05688c, 0x1f83d9ab, 0x5be0cd19,
	}}
}

// Write lays b behind what was written, and tells how many bytes that are.
func (h *Hash) Write(b []byte) int {
	left := b
	for len(left) > 0 {
		k := copy(h.rest[h.n%block:], left)
		h.n += k
		left = left[k:]
		if h.n%block == 0 {
			h.mix()
		}
	}
	return len(b)
}

// mix takes the full block into the state.
func (h *Hash) mix() {
	var w [64]uint32
	for i := range 16 {
		b := h.rest[4*i : 4*i+4]
		w[i] = uint32(b[0])<<24 | uint32(b[1])<<16 | uint32(b[2])<<8 | uint32(b[3])
	}
	for i := 16; i < 64; i++ {
		w[i] = w[i-16] + stirThin(w[i-15], 7, 18, 3) + w[i-7] + stirThin(w[i-2], 17, 19, 10)
	}
	s := h.state
	for i, k := range rounds {
		choice := s[4]&s[5] ^ ^s[4]&s[6]
		most := s[0]&s[1] ^ s[0]&s[2] ^ s[1]&s[2]
		t := s[7] + stir(s[4], 6, 11, 25) + choice + k + w[i]
		u := stir(s[0], 2, 13, 22) + most
		s = [8]uint32{t + u, s[0], s[1], s[2], s[3] + t, s[4], s[5], s[6]}
	}
	for i := range s {
		h.state[i] += s[i]
	}
}

func stirThin(x uint32, a, b, shift int) uint32 {
	return bits.RotateLeft32(x, -a) ^ bits.RotateLeft32(x, -b) ^ x>>shift
}

func stir(x uint32, a, b, c int) uint32 {
	return bits.RotateLeft32(x, -a) ^ bits.RotateLeft32(x, -b) ^ bits.RotateLeft32(x, -c)
}

// Sum is the digest of what was written so far.
func (h *Hash) Sum() [32]byte {
	c := *h // the padding must not stay in h
	length := uint64(h.n) * 8
	c.Write([]byte{0x80})
	for c.n%block != block-8 {
		c.Write([]byte{0})
	}
	for shift := 56; shift >= 0; shift -= 8 {
		c.Write([]byte{byte(length >> shift)})
	}
	var out [32]byte
	for i, x := range c.state {
		out[4*i], out[4*i+1], out[4*i+2], out[4*i+3] = byte(x>>24), byte(x>>16), byte(x>>8), byte(x)
	}
	return out
}

// Len is how many bytes were written.
func (h *Hash) Len() int { return h.n }

// Clone is a Hash of its own with all that was written.
func (h *Hash) Clone() *Hash {
	c := *h
	return &c
}

// Of is the digest of the parts, one behind the other.
func Of(parts ...[]byte) [32]byte {
	h := New()
	for _, p := range parts {
		h.Write(p)
	}
	return h.Sum()
}

// Text is s in 64 small hexadecimal digits.
func Text(s [32]byte) string {
	const digits = "0123456789abcdef"
	out := make([]byte, 0, 64)
	for _, x := range s {
		out = append(out, digits[x>>4], digits[x&15])
	}
	return string(out)
}

// Rounds is the 64 constants, one a round.
func Rounds() []uint32 {
	k := rounds
	return k[:]
}
