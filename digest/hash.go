package digest

import "math/bits"

const (
	blockSize  = 64
	lengthSize = 8
)

// state is the eight numbers A to H of the document.
type state [8]uint32

// cubeRoots has the numbers k of the document: what stands behind the point of the cube roots of the first 64 primes.
var cubeRoots = [64]uint32{
	0x428a2f98, 0x71374491, 0xb5c0fbcf, 0xe9b5dba5, 0x3956c25b, 0x59f111f1, 0x923f82a4, 0xab1c5ed5,
	0xd807aa98, 0x12835b01, 0x243185be, 0x550c7dc3, 0x72be5d74, 0x80deb1fe, 0x9bdc06a7, 0xc19bf174,
	0xe49b69c1, 0xefbe4786, 0x0fc19dc6, 0x240ca1cc, 0x2de92c6f, 0x4a7484aa, 0x5cb0a9dc, 0x76f988da,
	0x983e5152, 0xa831c66d, 0xb00327c8, 0xbf597fc7, 0xc6e00bf3, 0xd5a79147, 0x06ca6351, 0x14292967,
	0x27b70a85, 0x2e1b2138, 0x4d2c6dfc, 0x53380d13, 0x650a7354, 0x766a0abb, 0x81c2c92e, 0x92722c85,
	0xa2bfe8a1, 0xa81a664b, 0xc24b8b70, 0xc76c51a3, 0xd192e819, 0xd6990624, 0xf40e3585, 0x106aa070,
	0x19a4c116, 0x1e376c08, 0x2748774c, 0x34b0bcb5, 0x391c0cb3, 0x4ed8aa4a, 0x5b9cca4f, 0x682e6ff3,
	0x748f82ee, 0x78a5636f, 0x84c87814, 0x8cc70208, 0x90befffa, 0xa4506ceb, 0xbef9a3f7, 0xc67178f2,
}

// Of is the hash of the bytes of b.
func Of(b string) Digest {
	sum := state{0x6a09e667, 0xbb67ae85, 0x3c6ef372, 0xa54ff53a, 0x510e527f, 0x9b05688c, 0x1f83d9ab, 0x5be0cd19}
	whole := len(b) / blockSize * blockSize
	sum = takeAll(sum, b[:whole])
	// Only the rest is copied to be filled up, so that a long b is not there twice.
	return digestOf(takeAll(sum, fillUp(b[whole:], len(b))))
}

// fillUp makes whole blocks of the last bytes of a content that has so many bytes in all.
func fillUp(rest string, length int) string {
	filled := append([]byte(rest), 128)
	for len(filled)%blockSize != blockSize-lengthSize {
		filled = append(filled, 0)
	}
	lengthInBits := uint64(length) * 8
	for i := range lengthSize {
		filled = append(filled, byte(lengthInBits>>(8*(lengthSize-1-i))))
	}
	return string(filled)
}

func takeAll(sum state, blocks string) state {
	for at := 0; at < len(blocks); at += blockSize {
		sum = takeBlock(sum, blocks[at:at+blockSize])
	}
	return sum
}

func takeBlock(sum state, block string) state {
	words := wordsOf(block)
	v := sum
	for i := range words {
		a, b, c, d, e, f, g, h := v[0], v[1], v[2], v[3], v[4], v[5], v[6], v[7]
		t := h + turned3(e, 6, 11, 25) + (e&f ^ ^e&g) + cubeRoots[i] + words[i]
		u := turned3(a, 2, 13, 22) + (a&b ^ a&c ^ b&c)
		v = state{t + u, a, b, c, d + t, e, f, g}
	}
	for i := range sum {
		sum[i] += v[i]
	}
	return sum
}

// wordsOf has the numbers w of the document.
func wordsOf(block string) [64]uint32 {
	var w [64]uint32
	for i := range 16 {
		four := block[4*i : 4*i+4]
		w[i] = uint32(four[0])<<24 | uint32(four[1])<<16 | uint32(four[2])<<8 | uint32(four[3])
	}
	for i := 16; i < len(w); i++ {
		w[i] = turned2(w[i-2], 17, 19, 10) + w[i-7] + turned2(w[i-15], 7, 18, 3) + w[i-16]
	}
	return w
}

// turned2 is s0 and s1 of the document: x turned right twice, and moved right.
func turned2(x uint32, first, second, moved int) uint32 {
	return turned(x, first) ^ turned(x, second) ^ x>>moved
}

// turned3 is S0 and S1 of the document: x turned right three times.
func turned3(x uint32, first, second, third int) uint32 {
	return turned(x, first) ^ turned(x, second) ^ turned(x, third)
}

func turned(x uint32, right int) uint32 {
	return bits.RotateLeft32(x, -right)
}

func digestOf(sum state) Digest {
	var d Digest
	for i, x := range sum {
		d[4*i], d[4*i+1], d[4*i+2], d[4*i+3] = byte(x>>24), byte(x>>16), byte(x>>8), byte(x)
	}
	return d
}
