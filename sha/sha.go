// Package sha hashes bytes by SHA-256, as FIPS 180-4 has it.
package sha

import (
	"iter"
	"math/bits"

	"shallot/api"
)

const (
	blockLen = 64 // bytes of a block
	countLen = 8  // bytes that tell, at the very end, how many bits there were
	wordLen  = 4  // bytes of a word
	filler   = 128
)

// k holds what each of the 64 steps adds.
var k = [64]uint32{
	0x428a2f98, 0x71374491, 0xb5c0fbcf, 0xe9b5dba5, 0x3956c25b, 0x59f111f1, 0x923f82a4, 0xab1c5ed5,
	0xd807aa98, 0x12835b01, 0x243185be, 0x550c7dc3, 0x72be5d74, 0x80deb1fe, 0x9bdc06a7, 0xc19bf174,
	0xe49b69c1, 0xefbe4786, 0x0fc19dc6, 0x240ca1cc, 0x2de92c6f, 0x4a7484aa, 0x5cb0a9dc, 0x76f988da,
	0x983e5152, 0xa831c66d, 0xb00327c8, 0xbf597fc7, 0xc6e00bf3, 0xd5a79147, 0x06ca6351, 0x14292967,
	0x27b70a85, 0x2e1b2138, 0x4d2c6dfc, 0x53380d13, 0x650a7354, 0x766a0abb, 0x81c2c92e, 0x92722c85,
	0xa2bfe8a1, 0xa81a664b, 0xc24b8b70, 0xc76c51a3, 0xd192e819, 0xd6990624, 0xf40e3585, 0x106aa070,
	0x19a4c116, 0x1e376c08, 0x2748774c, 0x34b0bcb5, 0x391c0cb3, 0x4ed8aa4a, 0x5b9cca4f, 0x682e6ff3,
	0x748f82ee, 0x78a5636f, 0x84c87814, 0x8cc70208, 0x90befffa, 0xa4506ceb, 0xbef9a3f7, 0xc67178f2,
}

// Start tells the eight words from which each hash begins.
func Start() [8]uint32 {
	return [8]uint32{0x6a09e667, 0xbb67ae85, 0x3c6ef372, 0xa54ff53a, 0x510e527f, 0x9b05688c, 0x1f83d9ab, 0x5be0cd19}
}

// Pad fills bytes up to whole blocks.
func Pad(b []byte) []byte {
	noughts := (blockLen - (len(b)+1+countLen)%blockLen) % blockLen
	out := make([]byte, len(b)+1+noughts+countLen)
	copy(out, b)
	out[len(b)] = filler
	many := uint64(len(b)) * 8
	for i := range countLen {
		out[len(out)-1-i] = byte(many >> (8 * i))
	}
	return out
}

// Block takes one block into the eight words.
func Block(h [8]uint32, b []byte) ([8]uint32, api.Errno) {
	if len(b) != blockLen {
		return [8]uint32{}, api.ErrArg
	}
	w := schedule(b)
	v := h
	for i := range w {
		t1 := v[7] + turnedLow(v[4]) + choice(v[4], v[5], v[6]) + k[i] + w[i]
		t2 := turnedHigh(v[0]) + majority(v[0], v[1], v[2])
		// Each word moves on one place; two of them get something new behind that.
		copy(v[1:], v[:7])
		v[4] += t1
		v[0] = t1 + t2
	}
	for i := range v {
		v[i] += h[i]
	}
	return v, api.OK
}

// Sum tells the hash of bytes.
func Sum(b []byte) []byte {
	h := Start()
	for block := range blocks(Pad(b)) {
		h, _ = Block(h, block)
	}
	return written(h)
}

// blocks tells whole blocks, one after the other.
func blocks(b []byte) iter.Seq[[]byte] {
	return func(yield func([]byte) bool) {
		for at := 0; at+blockLen <= len(b); at += blockLen {
			if !yield(b[at : at+blockLen]) {
				return
			}
		}
	}
}

// schedule spreads a block's 16 words over the 64 steps.
func schedule(b []byte) [64]uint32 {
	var w [64]uint32
	for i := range 16 {
		w[i] = read(b[wordLen*i:])
	}
	for i := 16; i < len(w); i++ {
		w[i] = w[i-16] + mixedLow(w[i-15]) + w[i-7] + mixedHigh(w[i-2])
	}
	return w
}

func read(b []byte) uint32 {
	return uint32(b[0])<<24 | uint32(b[1])<<16 | uint32(b[2])<<8 | uint32(b[3])
}

func written(h [8]uint32) []byte {
	out := make([]byte, 0, api.HashLen)
	for _, x := range h {
		out = append(out, byte(x>>24), byte(x>>16), byte(x>>8), byte(x))
	}
	return out
}

func turned(x uint32, n int) uint32 { return bits.RotateLeft32(x, -n) }

func mixedLow(x uint32) uint32 { return turned(x, 7) ^ turned(x, 18) ^ x>>3 }

func mixedHigh(x uint32) uint32 { return turned(x, 17) ^ turned(x, 19) ^ x>>10 }

func turnedLow(e uint32) uint32 { return turned(e, 6) ^ turned(e, 11) ^ turned(e, 25) }

func turnedHigh(a uint32) uint32 { return turned(a, 2) ^ turned(a, 13) ^ turned(a, 22) }

func choice(e, f, g uint32) uint32 { return e&f ^ ^e&g }

func majority(a, b, c uint32) uint32 { return a&b ^ a&c ^ b&c }
