package digest

import (
	"cmp"
	"math/big"
	"strings"
	"testing"
)

func primes(count int) []int64 {
	var found []int64
	for n := int64(2); len(found) < count; n++ {
		if big.NewInt(n).ProbablyPrime(0) {
			found = append(found, n)
		}
	}
	return found
}

// behindPoint is the first 32 bits behind the point of the root of n of that degree.
func behindPoint(n int64, degree uint) uint32 {
	scaled := new(big.Int).Lsh(big.NewInt(n), 32*degree)
	low, high := big.NewInt(0), new(big.Int).Lsh(big.NewInt(n), 32)
	for low.Cmp(high) < 0 {
		middle := new(big.Int).Add(low, high)
		middle.Add(middle, big.NewInt(1)).Rsh(middle, 1)
		if new(big.Int).Exp(middle, big.NewInt(int64(degree)), nil).Cmp(scaled) <= 0 {
			low = middle
		} else {
			high.Sub(middle, big.NewInt(1))
		}
	}
	return uint32(low.Uint64())
}

func TestCubeRoots(t *testing.T) {
	found := primes(len(cubeRoots))
	if found[63] != 311 {
		t.Fatalf("the prime number 63 is %d", found[63])
	}
	for i, p := range found {
		if want := behindPoint(p, 3); cubeRoots[i] != want {
			t.Errorf("P3: k(%d) = %08x, want %08x", i, cubeRoots[i], want)
		}
	}
}

func TestFillUp(t *testing.T) {
	for n := range 3 * blockSize {
		rest := strings.Repeat("x", n)
		filled := fillUp(rest, n)
		zeros := len(filled) - n - 1 - lengthSize
		if len(filled)%blockSize != 0 || zeros < 0 || zeros >= blockSize {
			t.Fatalf("P3: %d bytes are filled up to %d", n, len(filled))
		}
		if want := rest + "\x80" + strings.Repeat("\x00", zeros); filled[:len(filled)-lengthSize] != want {
			t.Errorf("P3: %d bytes are filled up to %q", n, filled)
		}
	}
	if s := fillUp("", 0x0123456789abcd); s[56:] != "\x00\x09\x1a\x2b\x3c\x4d\x5e\x68" {
		t.Errorf("P3: the number of bits of a great length: %x", s[56:])
	}
}

func TestReadAndText(t *testing.T) {
	var rising Digest
	for i := range rising {
		rising[i] = byte(i*9 + 1)
	}
	for _, d := range []Digest{{}, rising, Of(""), Of("abc")} {
		text := d.Text()
		if back, ok := Read(text); !ok || back != d || len(text) != TextSize {
			t.Errorf("Read(%s) = %v, %v, want %v", text, back, ok, d)
		}
	}
}

func TestReadOfNoDigest(t *testing.T) {
	good := Of("abc").Text()
	for _, text := range []string{"", good[1:], good + "0", good[:63], strings.ToUpper(good), strings.Repeat("0", 1000)} {
		if d, ok := Read(text); ok || d != (Digest{}) {
			t.Errorf("Read(%q) = %v, %v", text, d, ok)
		}
	}
	for b := range 256 {
		for _, at := range []int{0, 1, 31, 62, 63} {
			text := good[:at] + string([]byte{byte(b)}) + good[at+1:]
			if _, ok := Read(text); ok != strings.Contains("0123456789abcdef", string([]byte{byte(b)})) {
				t.Errorf("Read(%q) = %v", text, ok)
			}
		}
	}
}

func TestCompare(t *testing.T) {
	digests := []Digest{{}, {31: 1}, {30: 1}, {0: 9}, {0: 0x10}, {0: 0x9f}, {0: 0xa0}, {0: 0xff}, {0: 0xff, 31: 0xff}}
	for i, a := range digests {
		for k, b := range digests {
			if got := Compare(a, b); got != cmp.Compare(i, k) || got != cmp.Compare(a.Text(), b.Text()) {
				t.Errorf("Compare of %s and %s = %d", a.Text(), b.Text(), got)
			}
		}
	}
}
