// Package blobs: contents under their digests, and tags, on a disk: see DOC.md.
package blobs

import (
	"blobs/api"
	"blobs/digest"
	"blobs/index"
)

// Store is contents and tags on a disk.
type Store struct{}

// Hash is the digest of a content (P3).
func Hash(b string) string { return digest.Of(b).Text() }

// Print writes an index (P4).
func Print(l []api.Tag) (string, api.Errno) {
	entries, ok := index.Check(l)
	if !ok {
		return "", api.ErrArg
	}
	return index.Print(entries), api.OK
}

// Parse reads an index (P5).
func Parse(text string) (l []api.Tag, e api.Errno, at int) {
	if len(text) > api.MaxText {
		return nil, api.ErrLong, 0
	}
	defer func() {
		if wrong := recover(); wrong != nil {
			l, e, at = nil, api.ErrText, placeOf(wrong)
		}
	}()
	return index.Tags(index.Read(text)), api.OK, 0
}

// placeOf lets any other panic go on: it is a fault of the program, which must not be told as one of the text.
func placeOf(wrong any) int {
	place, ok := wrong.(index.Place)
	if !ok {
		panic(wrong)
	}
	return int(place)
}

// Open opens the store on a disk (P9).
func Open(d *Disk) (*Store, api.Errno) { return nil, api.OK }

// Put keeps a content (P10).
func (s *Store) Put(b string) (string, api.Errno) { return "", api.OK }

// Get gives a content (P11).
func (s *Store) Get(digest string) (string, api.Errno) { return "", api.OK }

// Tag lets a tag name a content (P12).
func (s *Store) Tag(name string, digest string) api.Errno { return api.OK }

// Untag forgets a tag (P12).
func (s *Store) Untag(name string) api.Errno { return api.OK }

// Publish keeps a content and lets a tag name it (P13).
func (s *Store) Publish(name string, b string) (string, api.Errno) { return "", api.OK }

// Delete forgets a content (P14).
func (s *Store) Delete(digest string) api.Errno { return api.OK }

// Prune forgets all contents that no tag names (P14).
func (s *Store) Prune() (int, api.Errno) { return 0, api.OK }

// Blobs tells the contents that are there (P11).
func (s *Store) Blobs() ([]api.Blob, api.Errno) { return nil, api.OK }

// Tags tells the tags (P12).
func (s *Store) Tags() ([]api.Tag, api.Errno) { return nil, api.OK }
