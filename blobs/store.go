package blobs

import (
	"sync"

	"blobs/api"
	"blobs/digest"
	"blobs/index"
	"blobs/store"
)

// Store is contents and tags on a disk.
type Store struct {
	guard sync.Mutex
	files *store.Store
}

// Open opens the store on a disk (P9).
func Open(d *Disk) (*Store, api.Errno) {
	if d == nil {
		return nil, api.ErrNil
	}
	var files *store.Store
	var err error
	e, _ := reading(func() { files, err = store.Open(d.files) })
	if e == api.OK {
		e = errnoOf(err)
	}
	if e != api.OK {
		return nil, e
	}
	return &Store{files: files}, api.OK
}

// Put keeps a content (P10).
func (s *Store) Put(b string) (string, api.Errno) {
	if s == nil {
		return "", api.ErrNil
	}
	s.guard.Lock()
	defer s.guard.Unlock()
	if len(b) > api.MaxBlob {
		return "", api.ErrLong
	}
	return kept(s.files.Put(b))
}

// Get gives a content (P11).
func (s *Store) Get(digest string) (string, api.Errno) {
	if s == nil {
		return "", api.ErrNil
	}
	s.guard.Lock()
	defer s.guard.Unlock()
	d, e := s.find(digest)
	if e != api.OK {
		return "", e
	}
	b, whole := s.files.Content(d)
	if !whole {
		return "", api.ErrCorrupt
	}
	return b, api.OK
}

// Tag lets a tag name a content (P12).
func (s *Store) Tag(name string, digest string) api.Errno {
	if s == nil {
		return api.ErrNil
	}
	s.guard.Lock()
	defer s.guard.Unlock()
	if !index.IsTag(name) {
		return api.ErrTag
	}
	d, e := s.find(digest)
	if e != api.OK {
		return e
	}
	if !s.files.MayTag(name) {
		return api.ErrMany
	}
	return errnoOf(s.files.Tag(name, d))
}

// Untag forgets a tag (P12).
func (s *Store) Untag(name string) api.Errno {
	if s == nil {
		return api.ErrNil
	}
	s.guard.Lock()
	defer s.guard.Unlock()
	if !index.IsTag(name) {
		return api.ErrTag
	}
	if !s.files.HasTag(name) {
		return api.ErrNone
	}
	return errnoOf(s.files.Untag(name))
}

// Publish keeps a content and lets a tag name it (P13).
func (s *Store) Publish(name string, b string) (string, api.Errno) {
	if s == nil {
		return "", api.ErrNil
	}
	s.guard.Lock()
	defer s.guard.Unlock()
	if !index.IsTag(name) {
		return "", api.ErrTag
	}
	if len(b) > api.MaxBlob {
		return "", api.ErrLong
	}
	if !s.files.MayTag(name) {
		return "", api.ErrMany
	}
	return kept(s.files.Publish(name, b))
}

// Delete forgets a content (P14).
func (s *Store) Delete(digest string) api.Errno {
	if s == nil {
		return api.ErrNil
	}
	s.guard.Lock()
	defer s.guard.Unlock()
	d, e := s.find(digest)
	if e != api.OK {
		return e
	}
	if s.files.IsTagged(d) {
		return api.ErrTagged
	}
	return errnoOf(s.files.Delete(d))
}

// Prune forgets all contents that no tag names (P14).
func (s *Store) Prune() (int, api.Errno) {
	if s == nil {
		return 0, api.ErrNil
	}
	s.guard.Lock()
	defer s.guard.Unlock()
	n, err := s.files.Prune()
	if err != nil {
		return 0, errnoOf(err)
	}
	return n, api.OK
}

// Blobs tells the contents that are there (P11).
func (s *Store) Blobs() ([]api.Blob, api.Errno) {
	if s == nil {
		return nil, api.ErrNil
	}
	s.guard.Lock()
	defer s.guard.Unlock()
	var l []api.Blob
	for _, d := range s.files.Digests() {
		l = append(l, api.Blob{Digest: d.Text(), Size: s.files.Size(d)})
	}
	return l, api.OK
}

// Tags tells the tags (P12).
func (s *Store) Tags() ([]api.Tag, api.Errno) {
	if s == nil {
		return nil, api.ErrNil
	}
	s.guard.Lock()
	defer s.guard.Unlock()
	return index.Tags(s.files.Tags()), api.OK
}

// find is the digest with this text, if the store has such a content.
func (s *Store) find(text string) (digest.Digest, api.Errno) {
	d, ok := digest.Read(text)
	if !ok {
		return digest.Digest{}, api.ErrDigest
	}
	if !s.files.Has(d) {
		return digest.Digest{}, api.ErrNone
	}
	return d, api.OK
}

// kept is what a call answers that keeps a content.
func kept(d digest.Digest, err error) (string, api.Errno) {
	if err != nil {
		return "", errnoOf(err)
	}
	return d.Text(), api.OK
}
