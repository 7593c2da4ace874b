package store

import (
	"slices"

	"blobs/digest"
	"blobs/disk"
	"blobs/index"
)

// Open gives the store that lies on a disk, or begins one. It panics with an index.Place where the index is wrong, ahead of its first step.
func Open(d *disk.Disk) (*Store, error) {
	s := &Store{disk: d, contents: map[digest.Digest]struct{}{}, tags: map[string]index.Entry{}}
	begin := s.begin
	if s.isThere(layoutPath) {
		begin = s.goOn
	}
	if err := begin(); err != nil {
		return nil, err
	}
	return s, nil
}

func (s *Store) isThere(path string) bool {
	_, err := s.disk.Read(path)
	return err == nil
}

// begin makes an empty store. The layout comes last: as long as it is not there, no Open has come to its end, and what is there is nothing. Whether there is room is asked ahead of the first step, as what is removed can't be brought back.
func (s *Store) begin() error {
	indexText := index.Print(nil)
	if err := s.disk.Fit(len(indexText) + len(layoutText)); err != nil {
		return err
	}
	if err := s.removeAll(func(path string) bool { return true }); err != nil {
		return err
	}
	return s.write([]file{{journalPath, ""}, {indexPath, indexText}, {layoutPath, layoutText}})
}

// goOn reads the store that is there, and ends or takes back what was under way when the disk broke. It writes no bytes, so that no want of room can stop it.
func (s *Store) goOn() error {
	coming := besidePath(1)
	if s.isThere(coming) && !s.isThere(besidePath(0)) {
		s.load(coming)
		if err := s.disk.Rename(coming, indexPath); err != nil {
			return err
		}
	} else {
		s.load(indexPath)
	}
	if s.isThere(pruningPath) {
		if err := s.endPruning(s.Untagged()); err != nil {
			return err
		}
	}
	if err := s.removeAll(isForeign); err != nil {
		return err
	}
	return s.disk.SyncDir()
}

// load reads what the store has. The file with its index may be on its way.
func (s *Store) load(indexAt string) {
	text, _ := s.disk.Read(indexAt)
	for _, e := range index.Read(text) {
		s.tags[e.Name] = e
	}
	for _, path := range s.disk.List() {
		if d, ok := digestAt(path); ok {
			s.contents[d] = struct{}{}
		}
	}
}

// removeAll removes the files under such paths, the greatest path first: so of the files beside the store none is left without the one ahead of it.
func (s *Store) removeAll(such func(path string) bool) error {
	for _, path := range slices.Backward(s.disk.List()) {
		if !such(path) {
			continue
		}
		if err := s.disk.Remove(path); err != nil {
			return err
		}
	}
	return nil
}

// isForeign says that no store at rest has a file under this path.
func isForeign(path string) bool {
	_, ok := digestAt(path)
	return !ok && path != layoutPath && path != indexPath && path != journalPath
}
