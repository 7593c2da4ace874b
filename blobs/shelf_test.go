package blobs_test

import (
	"math/rand/v2"
	"slices"
	"strings"
	"testing"

	"blobs/api"
	"blobs/blobs"
)

func (m *shelf) used() int {
	n := 0
	for i, text := range m.files() {
		n += i % 2 * len(text)
	}
	return n
}

func (m *shelf) isTagged(digest string) bool {
	return slices.ContainsFunc(m.index(), func(x api.Tag) bool { return x.Digest == digest })
}

func (m *shelf) copy() *shelf {
	other := newShelf()
	for digest, b := range m.contents {
		other.contents[digest] = b
	}
	for name, x := range m.tags {
		other.tags[name] = x
	}
	return other
}

// become takes over what another shelf has, if there is room to lay beside what is there what has to be written for it.
func (m *shelf) become(other *shelf, room int) api.Errno {
	lays := 0
	for digest, b := range other.contents {
		if old, ok := m.contents[digest]; !ok || old != b {
			lays += len(b)
		}
	}
	if !slices.Equal(m.index(), other.index()) {
		lays += len(indexText(other.index()))
	}
	if m.used()+lays > room {
		return api.ErrSpace
	}
	*m = *other
	return api.OK
}

func (m *shelf) put(b string, room int) api.Errno {
	if len(b) > 300 {
		return api.ErrLong
	}
	other := m.copy()
	other.contents[hashOf(b)] = b
	return m.become(other, room)
}

func shelfTag(name string) bool {
	return len(name) >= 1 && len(name) <= 20 && strings.Trim(name, smallAndDigits+"._-") == "" && strings.IndexByte(smallAndDigits, name[0]) >= 0
}

func shelfDigest(text string) bool {
	return len(text) == 64 && strings.Trim(text, "0123456789abcdef") == ""
}

func (m *shelf) tag(name string, digest string, room int) api.Errno {
	b, ok := m.contents[digest]
	_, old := m.tags[name]
	switch {
	case !shelfTag(name):
		return api.ErrTag
	case !shelfDigest(digest):
		return api.ErrDigest
	case !ok:
		return api.ErrNone
	case !old && len(m.tags) == 8:
		return api.ErrMany
	}
	other := m.copy()
	other.tags[name] = api.Tag{Name: name, Digest: digest, Size: len(b)}
	return m.become(other, room)
}

func (m *shelf) untag(name string, room int) api.Errno {
	_, ok := m.tags[name]
	switch {
	case !shelfTag(name):
		return api.ErrTag
	case !ok:
		return api.ErrNone
	}
	other := m.copy()
	delete(other.tags, name)
	return m.become(other, room)
}

func (m *shelf) publish(name string, b string, room int) api.Errno {
	_, old := m.tags[name]
	switch {
	case !shelfTag(name):
		return api.ErrTag
	case len(b) > 300:
		return api.ErrLong
	case !old && len(m.tags) == 8:
		return api.ErrMany
	}
	other := m.copy()
	other.contents[hashOf(b)] = b
	other.tags[name] = api.Tag{Name: name, Digest: hashOf(b), Size: len(b)}
	return m.become(other, room)
}

func (m *shelf) delete(digest string) api.Errno {
	_, ok := m.contents[digest]
	switch {
	case !shelfDigest(digest):
		return api.ErrDigest
	case !ok:
		return api.ErrNone
	case m.isTagged(digest):
		return api.ErrTagged
	}
	delete(m.contents, digest)
	return api.OK
}

func (m *shelf) prune() int {
	n := 0
	for digest := range m.contents {
		if !m.isTagged(digest) {
			delete(m.contents, digest)
			n++
		}
	}
	return n
}

func (r chance) content() string {
	if r.IntN(30) == 0 {
		return strings.Repeat("x", api.MaxBlob+r.IntN(2))
	}
	return strings.Repeat(string(rune('a'+r.IntN(3))), r.IntN(4)*r.IntN(8))
}

func (r chance) digest() string {
	if r.IntN(20) == 0 {
		return noDigests()[r.IntN(len(noDigests()))]
	}
	return hashOf(r.content())
}

func (r chance) name() string {
	if r.IntN(20) == 0 {
		return noTags()[r.IntN(len(noTags()))]
	}
	return "t" + string(rune('0'+r.IntN(11)))
}

// storeAndShelf does one call that may change something to a store and its shelf, and tells what it was and what they answered.
func storeAndShelf(t *testing.T, s *blobs.Store, m *shelf, room int, r chance) (string, api.Errno, api.Errno) {
	t.Helper()
	name, digest, b := r.name(), r.digest(), r.content()
	switch k := r.IntN(20); {
	case k < 5:
		kept, e := s.Put(b)
		if e == api.OK {
			wantDigest(t, "P10: Put", b)(kept, e)
		}
		return "P10: Put", ifAnswered(kept, e), m.put(b, room)
	case k < 9:
		return "P12: Tag", s.Tag(name, digest), m.tag(name, digest, room)
	case k < 11:
		return "P12: Untag", s.Untag(name), m.untag(name, room)
	case k < 15:
		kept, e := s.Publish(name, b)
		if e == api.OK {
			wantDigest(t, "P13: Publish", b)(kept, e)
		}
		return "P13: Publish", ifAnswered(kept, e), m.publish(name, b, room)
	case k < 19:
		return "P14: Delete", s.Delete(digest), m.delete(digest)
	default:
		wantPruned(t, s, m.prune())
		return "P14: Prune", api.OK, api.OK
	}
}

// spoilSome turns bits of some file of a content, if there is one that has bytes.
func spoilSome(t *testing.T, d *blobs.Disk, m *shelf, r chance) {
	t.Helper()
	for _, x := range m.blobs() {
		if x.Size > 0 && r.IntN(4) == 0 {
			at, mask := r.IntN(x.Size), 1+r.IntN(255)
			wantErrno(t, "P8: Spoil", d.Spoil("blobs/"+x.Digest, at, mask), api.OK)
			b := []byte(m.contents[x.Digest])
			b[at] ^= byte(mask)
			m.contents[x.Digest] = string(b)
			return
		}
	}
}

func TestStoresAgainstAModel(t *testing.T) {
	for seed := range uint64(120) {
		r := chance{rand.New(rand.NewPCG(seed, 9))}
		room := emptyStore + r.IntN(2500)
		d := blobs.NewDisk(room)
		s, m := open(t, d), newShelf()
		for i := range 150 {
			call, e, want := storeAndShelf(t, s, m, room, r)
			wantErrno(t, call, e, want)
			switch r.IntN(12) {
			case 0:
				s = wantStore(t, d, s, m)
			case 1:
				s = open(t, d)
			case 2:
				spoilSome(t, d, m, r)
			}
			wantShelf(t, s, m)
			wantFiles(t, d, m.files()...)
			if t.Failed() {
				t.Fatalf("seed %d: call %d, %s", seed, i, call)
			}
		}
	}
}
