package blobs_test

import (
	"crypto/sha256"
	"encoding/hex"
	"strings"
	"testing"

	"blobs/api"
	"blobs/blobs"
)

// hashOf is the hash as the library has it: the document's is the same.
func hashOf(b string) string {
	h := sha256.Sum256([]byte(b))
	return hex.EncodeToString(h[:])
}

func TestHashOfKnownTexts(t *testing.T) {
	for b, want := range map[string]string{
		"":    "e3b0c44298fc1c149afbf4c8996fb92427ae41e4649b934ca495991b7852b855",
		"abc": "ba7816bf8f01cfea414140de5dae2223b00361a396177a9cb410ff61f20015ad",
		"abcdbcdecdefdefgefghfghighijhijkijkljklmklmnlmnomnopnopq": "248d6a61d20638b8e5c026930c3e6039a33ce45964ff2167f6ecedd419db06c1",
		strings.Repeat("a", 1000000):                               "cdc76e5c9914fb9281a1c7e284d73e67f1809a48a497200e046d39ccc7112cd0",
	} {
		if h := blobs.Hash(b); h != want {
			t.Errorf("P3: Hash of %d bytes = %s, want %s", len(b), h, want)
		}
	}
}

func TestHashOfEveryLength(t *testing.T) {
	var b []byte
	for n := range 2*api.MaxBlob + 1 {
		if h := blobs.Hash(string(b)); h != hashOf(string(b)) {
			t.Fatalf("P3: Hash of %d bytes = %s, want %s", n, h, hashOf(string(b)))
		}
		b = append(b, byte(n*151+n/256))
	}
}

func TestHashWhereThePaddingTurnsOver(t *testing.T) {
	for _, n := range []int{55, 56, 57, 63, 64, 65, 119, 120, 121, 127, 128, 129, api.MaxBlob} {
		for _, of := range []string{"\x00", "\x80", "\xff", "z"} {
			b := strings.Repeat(of, n)
			if h := blobs.Hash(b); h != hashOf(b) {
				t.Errorf("P3: Hash of %d bytes %q = %s, want %s", n, of, h, hashOf(b))
			}
		}
	}
}

func TestHashOfEveryByte(t *testing.T) {
	for b := range 256 {
		one := string([]byte{byte(b)})
		if h := blobs.Hash(one); h != hashOf(one) {
			t.Errorf("P3: Hash(%q) = %s, want %s", one, h, hashOf(one))
		}
	}
}
