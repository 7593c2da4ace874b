// Package blobs: contents under their digests, and tags, on a disk: see DOC.md.
package blobs

import (
	"blobs/api"
	"blobs/digest"
	"blobs/index"
)

// Hash is the digest of a content (P3).
func Hash(b string) string { return digest.Of(b).Text() }

// Print writes an index (P4).
func Print(l []api.Tag) (string, api.Errno) {
	entries, ok := index.Check(l)
	if !ok {
		return "", api.ErrArg
	}
	return index.Print(entries), api.OK
}

// Parse reads an index (P5).
func Parse(text string) ([]api.Tag, api.Errno, int) {
	if len(text) > api.MaxText {
		return nil, api.ErrLong, 0
	}
	var entries []index.Entry
	e, at := reading(func() { entries = index.Read(text) })
	return index.Tags(entries), e, at
}

// reading is where whoever reads an index comes out, if it is wrong somewhere: with the place.
func reading(read func()) (e api.Errno, at int) {
	defer func() {
		if wrong := recover(); wrong != nil {
			e, at = api.ErrText, placeOf(wrong)
		}
	}()
	read()
	return api.OK, 0
}

// placeOf lets any other panic go on: it is a fault of the program, which must not be told as one of the text.
func placeOf(wrong any) int {
	place, ok := wrong.(index.Place)
	if !ok {
		panic(wrong)
	}
	return int(place)
}
