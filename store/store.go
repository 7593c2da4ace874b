// Package store keeps contents and tags in files on a disk, so that a change is there whole or not at all, whatever step the disk breaks at.
package store

import (
	"cmp"
	"maps"
	"slices"

	"blobs/api"
	"blobs/digest"
	"blobs/disk"
	"blobs/index"
)

// Store knows which contents and tags its files have. A content's bytes it asks of the disk each time, as they may be spoilt.
type Store struct {
	disk     *disk.Disk
	contents map[digest.Digest]struct{}
	tags     map[string]index.Entry
}

// Has says whether there is such a content.
func (s *Store) Has(d digest.Digest) bool {
	_, ok := s.contents[d]
	return ok
}

// Content is the bytes of a content; false, if there are none or they are not what its digest says.
func (s *Store) Content(d digest.Digest) (string, bool) {
	b, err := s.disk.Read(contentPath(d))
	if err != nil || digest.Of(b) != d {
		return "", false
	}
	return b, true
}

// Size is the number of bytes of a content's file.
func (s *Store) Size(d digest.Digest) int {
	b, _ := s.disk.Read(contentPath(d))
	return len(b)
}

// Digests tells the contents that are there, the lesser first.
func (s *Store) Digests() []digest.Digest {
	return slices.SortedFunc(maps.Keys(s.contents), digest.Compare)
}

// Untagged tells the contents that no tag names, the lesser first.
func (s *Store) Untagged() []digest.Digest {
	return slices.DeleteFunc(s.Digests(), s.IsTagged)
}

// IsTagged says whether a tag names this content.
func (s *Store) IsTagged(d digest.Digest) bool {
	for _, e := range s.tags {
		if e.Digest == d {
			return true
		}
	}
	return false
}

// HasTag says whether there is such a tag.
func (s *Store) HasTag(name string) bool {
	_, ok := s.tags[name]
	return ok
}

// MayTag says whether there is such a tag, or may be one more.
func (s *Store) MayTag(name string) bool {
	return s.HasTag(name) || len(s.tags) < api.MaxTags
}

// Tags tells the tags, the lesser first.
func (s *Store) Tags() []index.Entry { return sorted(s.tags) }

func sorted(tags map[string]index.Entry) []index.Entry {
	return slices.SortedFunc(maps.Values(tags), func(a, b index.Entry) int { return cmp.Compare(a.Name, b.Name) })
}
