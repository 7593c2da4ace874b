// Package digest: digests as values, their text, and the hash that gives them.
package digest

import (
	"bytes"
	"strings"
)

// Size is how many bytes a digest has.
const Size = 32

// TextSize is how many letters the text of a digest has.
const TextSize = 2 * Size

// Digest is an array, so that digests can be held against each other and be keys.
type Digest [Size]byte

const letters = "0123456789abcdef"

// Text is the digest in hexadecimal.
func (d Digest) Text() string {
	text := make([]byte, 0, TextSize)
	for _, b := range d {
		text = append(text, letters[b>>4], letters[b&15])
	}
	return string(text)
}

// Read is the digest that has this text; false, if the text is none.
func Read(text string) (Digest, bool) {
	if len(text) != TextSize {
		return Digest{}, false
	}
	var d Digest
	for i := range Size {
		high := strings.IndexByte(letters, text[2*i])
		low := strings.IndexByte(letters, text[2*i+1])
		if high < 0 || low < 0 {
			return Digest{}, false
		}
		d[i] = byte(high<<4 | low)
	}
	return d, true
}

// Compare orders digests as their texts are ordered.
func Compare(a, b Digest) int { return bytes.Compare(a[:], b[:]) }
