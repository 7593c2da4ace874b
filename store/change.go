package store

import (
	"maps"
	"strings"

	"blobs/digest"
	"blobs/index"
)

// Put keeps a content.
func (s *Store) Put(b string) (digest.Digest, error) {
	d := digest.Of(b)
	return d, s.keep(d, b, s.tags)
}

// Publish keeps a content and lets a tag name it.
func (s *Store) Publish(name string, b string) (digest.Digest, error) {
	d := digest.Of(b)
	return d, s.keep(d, b, s.tagsWith(name, d))
}

// Tag lets a tag name a content that is there.
func (s *Store) Tag(name string, d digest.Digest) error {
	return s.change(nil, sized(s.tagsWith(name, d), d, s.Size(d)))
}

// Untag forgets a tag.
func (s *Store) Untag(name string) error {
	tags := maps.Clone(s.tags)
	delete(tags, name)
	return s.change(nil, tags)
}

// Delete forgets a content.
func (s *Store) Delete(d digest.Digest) error {
	if err := s.disk.Remove(contentPath(d)); err != nil {
		return err
	}
	delete(s.contents, d)
	return s.disk.SyncDir()
}

// Prune forgets all contents that no tag names, and tells how many they were. Whether it is under way is told by the journal's path, which one step changes; and which contents are to go, by the index: so an Open can end it, and no byte has to be written.
func (s *Store) Prune() (int, error) {
	untagged := s.Untagged()
	if len(untagged) == 0 {
		return 0, nil
	}
	if err := s.disk.Rename(journalPath, pruningPath); err != nil {
		return 0, err
	}
	return len(untagged), s.endPruning(untagged)
}

func (s *Store) endPruning(untagged []digest.Digest) error {
	for _, d := range untagged {
		if err := s.disk.Remove(contentPath(d)); err != nil {
			return err
		}
		delete(s.contents, d)
	}
	if err := s.disk.Rename(pruningPath, journalPath); err != nil {
		return err
	}
	return s.disk.SyncDir()
}

// tagsWith is the tags there are and one that names this content, whose size is yet to be told.
func (s *Store) tagsWith(name string, d digest.Digest) map[string]index.Entry {
	tags := maps.Clone(s.tags)
	name = strings.Clone(name) // the caller's string may be a piece of a far longer one, which is not to be kept
	tags[name] = index.Entry{Name: name, Digest: d}
	return tags
}

// sized is these tags, of which all that name this content tell this size.
func sized(tags map[string]index.Entry, d digest.Digest, size int) map[string]index.Entry {
	all := maps.Clone(tags)
	for name, e := range tags {
		if e.Digest == d {
			e.Size = size
			all[name] = e
		}
	}
	return all
}

// keep lets the store have a content, if it is not there or spoilt, and these tags. Two contents may have one digest: so the size is that of the content whose bytes the file has in the end, and a file that is written anew may have another length than the tags tell that were there.
func (s *Store) keep(d digest.Digest, b string, tags map[string]index.Entry) error {
	var files []file
	content, whole := s.Content(d)
	if !whole {
		content = b
		files = append(files, file{contentPath(d), b})
	}
	if err := s.change(files, sized(tags, d, len(content))); err != nil {
		return err
	}
	s.contents[d] = struct{}{}
	return nil
}

// change writes these files, and the index, if these tags are others than there are.
func (s *Store) change(files []file, tags map[string]index.Entry) error {
	if !maps.Equal(tags, s.tags) {
		files = append(files, file{indexPath, index.Print(sorted(tags))})
	}
	if err := s.write(files); err != nil {
		return err
	}
	s.tags = tags
	return nil
}
