package blobs_test

import (
	"maps"
	"math"
	"slices"
	"strings"
	"testing"

	"blobs/api"
	"blobs/blobs"
)

const (
	plenty     = 100000                        // room for all that a test keeps
	emptyStore = len(emptyIndex) + len(layout) // bytes of a store without contents and tags
	layout     = `{"version":1}`
)

// shelf is what a store should have: the bytes of each content's file, by digests, and the tags, by names.
type shelf struct {
	contents map[string]string
	tags     map[string]api.Tag
}

func newShelf() *shelf { return &shelf{map[string]string{}, map[string]api.Tag{}} }

// shelfWith has these contents and, by their names, tags of contents.
func shelfWith(contents []string, tags map[string]string) *shelf {
	m := newShelf()
	for _, b := range contents {
		m.contents[hashOf(b)] = b
	}
	for name, b := range tags {
		m.tags[name] = api.Tag{Name: name, Digest: hashOf(b), Size: len(b)}
	}
	return m
}

func (m *shelf) blobs() []api.Blob {
	var l []api.Blob
	for _, digest := range slices.Sorted(maps.Keys(m.contents)) {
		l = append(l, api.Blob{Digest: digest, Size: len(m.contents[digest])})
	}
	return l
}

func (m *shelf) index() []api.Tag {
	var l []api.Tag
	for _, name := range slices.Sorted(maps.Keys(m.tags)) {
		l = append(l, m.tags[name])
	}
	return l
}

// files is each path and its bytes, as filesOf has them.
func (m *shelf) files() []string {
	var files []string
	for _, x := range m.blobs() {
		files = append(files, "blobs/"+x.Digest, m.contents[x.Digest])
	}
	return append(files, "index", indexText(m.index()), "journal", "", "layout", layout)
}

func open(t *testing.T, d *blobs.Disk) *blobs.Store {
	t.Helper()
	s, e := blobs.Open(d)
	if s == nil || e != api.OK {
		t.Fatalf("P9: Open = %v, %d", s != nil, e)
	}
	return s
}

// newStore is an empty store on a new disk.
func newStore(t *testing.T) (*blobs.Disk, *blobs.Store) {
	t.Helper()
	d := blobs.NewDisk(plenty)
	return d, open(t, d)
}

func put(t *testing.T, s *blobs.Store, contents ...string) {
	t.Helper()
	for _, b := range contents {
		wantDigest(t, "P10: Put", b)(s.Put(b))
	}
}

func publish(t *testing.T, s *blobs.Store, name string, b string) {
	t.Helper()
	wantDigest(t, "P13: Publish", b)(s.Publish(name, b))
}

// wantDigest gives what looks at the answer of a call that keeps b.
func wantDigest(t *testing.T, what string, b string) func(string, api.Errno) {
	t.Helper()
	return func(digest string, e api.Errno) {
		t.Helper()
		if digest != hashOf(b) || e != api.OK {
			t.Errorf("%s of %q = %q, %d, want %q", what, b, digest, e, hashOf(b))
		}
	}
}

// wantRefused gives what looks at the answer of a call that is refused.
func wantRefused(t *testing.T, what string, want api.Errno) func(string, api.Errno) {
	t.Helper()
	return func(answer string, e api.Errno) {
		t.Helper()
		if answer != "" || e != want {
			t.Errorf("%s = %q, %d, want nothing and %d", what, answer, e, want)
		}
	}
}

// wantShelf: the store tells just what the shelf has.
func wantShelf(t *testing.T, s *blobs.Store, m *shelf) {
	t.Helper()
	if l, e := s.Blobs(); !slices.Equal(l, m.blobs()) || e != api.OK {
		t.Errorf("P11: Blobs = %v, %d, want %v", l, e, m.blobs())
	}
	if l, e := s.Tags(); !slices.Equal(l, m.index()) || e != api.OK {
		t.Errorf("P12: Tags = %v, %d, want %v", l, e, m.index())
	}
	for digest, b := range m.contents {
		want := api.OK
		if hashOf(b) != digest {
			b, want = "", api.ErrCorrupt
		}
		if got, e := s.Get(digest); got != b || e != want {
			t.Errorf("P11, P17: Get = %q, %d, want %q, %d", got, e, b, want)
		}
	}
}

// wantRest: the disk is at rest with what the shelf has, and so is one that has crashed. (A copy can't tell: all of it is synced.)
func wantRest(t *testing.T, d *blobs.Disk, m *shelf) {
	t.Helper()
	wantFiles(t, d, m.files()...)
	wantOK(t, d.Crash(0, nil))
	wantFiles(t, d, m.files()...)
}

// wantStore: the store has what the shelf has, now and opened anew behind a crash, on its disk and on a copy.
func wantStore(t *testing.T, d *blobs.Disk, s *blobs.Store, m *shelf) *blobs.Store {
	t.Helper()
	wantShelf(t, s, m)
	wantRest(t, d, m)
	other, e := d.Copy()
	wantErrno(t, "P8: Copy", e, api.OK)
	for _, x := range []*blobs.Disk{other, d} {
		s = open(t, x)
		wantShelf(t, s, m)
		wantRest(t, x, m)
	}
	return s
}

func TestTheExampleOfAStore(t *testing.T) {
	d, s := newStore(t)
	abc := "ba7816bf8f01cfea414140de5dae2223b00361a396177a9cb410ff61f20015ad"
	put(t, s, "abc")
	wantErrno(t, "P12: Tag", s.Tag("one", abc), api.OK)
	if l, e := s.Tags(); !slices.Equal(l, []api.Tag{{Name: "one", Digest: abc, Size: 3}}) || e != api.OK {
		t.Errorf("P12: Tags = %v, %d", l, e)
	}
	if b, e := d.Read("index"); b != `{"version":1,"tags":[{"tag":"one","digest":"`+abc+`","size":3}]}` || e != api.OK {
		t.Errorf("P9: the index is %s, %d", b, e)
	}
	wantErrno(t, "P14: Delete", s.Delete(abc), api.ErrTagged)
	publish(t, s, "one", "")
	wantPruned(t, s, 1)
	wantRefused(t, "P11: Get", api.ErrNone)(s.Get(abc))
	wantStore(t, d, s, shelfWith([]string{""}, map[string]string{"one": ""}))
}

func TestOpenOfAnEmptyDisk(t *testing.T) {
	for _, room := range []int{emptyStore, emptyStore + 1, plenty, math.MaxInt} {
		d := blobs.NewDisk(room)
		wantStore(t, d, open(t, d), newShelf())
	}
}

func TestOpenWithTooLittleRoom(t *testing.T) {
	for _, room := range []int{math.MinInt, -1, 0, 1, 12, 13, 14, 22, 23, 24, emptyStore - 1} {
		for paths := range 8 {
			d := blobs.NewDisk(room)
			for range 2 {
				if s, e := blobs.Open(d); s != nil || e != api.ErrSpace {
					t.Errorf("P9: Open with room for %d = %v, %d, want ErrSpace", room, s != nil, e)
				}
				wantFiles(t, d)
			}
			wantOK(t, d.Crash(paths, []int{math.MaxInt, math.MaxInt, math.MaxInt}))
			wantFiles(t, d)
		}
	}
}

func TestOpenOfADiskThatIsNil(t *testing.T) {
	if s, e := blobs.Open(nil); s != nil || e != api.ErrNil {
		t.Errorf("P9: Open(nil) = %v, %d, want ErrNil", s != nil, e)
	}
}

// What is at rest must not depend on what was called before it, so each call is looked at by itself.
func TestAtRestBehindEachCall(t *testing.T) {
	before := func(t *testing.T) (*blobs.Disk, *blobs.Store) {
		d, s := newStore(t)
		put(t, s, "a", "b", "c")
		wantOK(t, s.Tag("x", hashOf("a")), s.Tag("y", hashOf("b")))
		return d, s
	}
	abc, xy := []string{"a", "b", "c"}, map[string]string{"x": "a", "y": "b"}
	for name, c := range map[string]struct {
		call func(t *testing.T, s *blobs.Store)
		want *shelf
	}{
		"Put":              {func(t *testing.T, s *blobs.Store) { put(t, s, "d") }, shelfWith([]string{"a", "b", "c", "d"}, xy)},
		"Put again":        {func(t *testing.T, s *blobs.Store) { put(t, s, "a") }, shelfWith(abc, xy)},
		"Get":              {func(t *testing.T, s *blobs.Store) { s.Get(hashOf("a")) }, shelfWith(abc, xy)},
		"Tag":              {func(t *testing.T, s *blobs.Store) { s.Tag("z", hashOf("a")) }, shelfWith(abc, map[string]string{"x": "a", "y": "b", "z": "a"})},
		"Tag of another":   {func(t *testing.T, s *blobs.Store) { s.Tag("x", hashOf("c")) }, shelfWith(abc, map[string]string{"x": "c", "y": "b"})},
		"Tag of the same":  {func(t *testing.T, s *blobs.Store) { s.Tag("x", hashOf("a")) }, shelfWith(abc, xy)},
		"Untag":            {func(t *testing.T, s *blobs.Store) { s.Untag("x") }, shelfWith(abc, map[string]string{"y": "b"})},
		"Publish":          {func(t *testing.T, s *blobs.Store) { publish(t, s, "z", "d") }, shelfWith([]string{"a", "b", "c", "d"}, map[string]string{"x": "a", "y": "b", "z": "d"})},
		"Publish of there": {func(t *testing.T, s *blobs.Store) { publish(t, s, "x", "c") }, shelfWith(abc, map[string]string{"x": "c", "y": "b"})},
		"Publish of same":  {func(t *testing.T, s *blobs.Store) { publish(t, s, "x", "a") }, shelfWith(abc, xy)},
		"Delete":           {func(t *testing.T, s *blobs.Store) { s.Delete(hashOf("c")) }, shelfWith([]string{"a", "b"}, xy)},
		"Prune":            {func(t *testing.T, s *blobs.Store) { s.Prune() }, shelfWith([]string{"a", "b"}, xy)},
		"Blobs":            {func(t *testing.T, s *blobs.Store) { s.Blobs() }, shelfWith(abc, xy)},
		"Tags":             {func(t *testing.T, s *blobs.Store) { s.Tags() }, shelfWith(abc, xy)},
		"none":             {func(t *testing.T, s *blobs.Store) { s.Tag("x", "none"); s.Untag("none"); s.Delete(hashOf("a")) }, shelfWith(abc, xy)},
	} {
		t.Run(name, func(t *testing.T) {
			d, s := before(t)
			c.call(t, s)
			wantStore(t, d, s, c.want)
		})
	}
}

// storeCalls has every call of a store, with the same arguments.
func storeCalls(t *testing.T, s *blobs.Store, name string, digest string, b string) map[string]api.Errno {
	t.Helper()
	kept, e1 := s.Put(b)
	got, e2 := s.Get(digest)
	published, e3 := s.Publish(name, b)
	pruned, e4 := s.Prune()
	all, e5 := s.Blobs()
	tags, e6 := s.Tags()
	if e1 != api.OK && kept != "" || e2 != api.OK && got != "" || e3 != api.OK && published != "" {
		t.Errorf("P1: beside errors %d, %d, %d stand %q, %q, %q", e1, e2, e3, kept, got, published)
	}
	if e4 != api.OK && pruned != 0 || e5 != api.OK && len(all) != 0 || e6 != api.OK && len(tags) != 0 {
		t.Errorf("P1: beside errors %d, %d, %d stand %d, %v, %v", e4, e5, e6, pruned, all, tags)
	}
	return map[string]api.Errno{
		"Put": e1, "Get": e2, "Publish": e3, "Prune": e4, "Blobs": e5, "Tags": e6,
		"Tag": s.Tag(name, digest), "Untag": s.Untag(name), "Delete": s.Delete(digest),
	}
}

func TestAStoreThatIsNil(t *testing.T) {
	long := strings.Repeat("x", api.MaxBlob+1)
	for _, x := range [][3]string{{"", "", ""}, {"a", hashOf("a"), "a"}, {"A", "no digest", long}} {
		for call, e := range storeCalls(t, nil, x[0], x[1], x[2]) {
			wantErrno(t, "P1: "+call+" of a store that is nil", e, api.ErrNil)
		}
	}
}

func TestAStoreOpenedAnew(t *testing.T) {
	d, s := newStore(t)
	m := newShelf()
	for i := range 6 {
		b := strings.Repeat("b", i)
		name := "t" + string(rune('0'+i%3))
		publish(t, s, name, b)
		m.contents[hashOf(b)] = b
		m.tags[name] = api.Tag{Name: name, Digest: hashOf(b), Size: i}
		s = wantStore(t, d, s, m)
	}
}

// A copy of a store is a store of its own.
func TestAStoreOnACopy(t *testing.T) {
	d, s := newStore(t)
	publish(t, s, "a", "1")
	copied, e := d.Copy()
	wantErrno(t, "P8: Copy", e, api.OK)
	other := open(t, copied)
	publish(t, other, "a", "2")
	put(t, s, "3")
	wantStore(t, d, s, shelfWith([]string{"1", "3"}, map[string]string{"a": "1"}))
	wantStore(t, copied, other, shelfWith([]string{"1", "2"}, map[string]string{"a": "2"}))
}

func TestTwoStoresSideBySide(t *testing.T) {
	d, s := newStore(t)
	e, other := newStore(t)
	publish(t, s, "a", "1")
	put(t, other, "1", "2")
	wantErrno(t, "P2: Tag of what the other store has", s.Tag("b", hashOf("2")), api.ErrNone)
	wantErrno(t, "P2: Untag of what the other store has", other.Untag("a"), api.ErrNone)
	wantErrno(t, "P2: Delete of what the other store has tagged", other.Delete(hashOf("1")), api.OK)
	wantErrno(t, "P2: Spoil", e.Spoil("blobs/"+hashOf("2"), 0, 1), api.OK)
	put(t, s, "2")
	wantOK(t, e.Break(0))
	put(t, s, "3")
	wantStore(t, d, s, shelfWith([]string{"1", "2", "3"}, map[string]string{"a": "1"}))
	m := shelfWith([]string{"2"}, nil)
	m.contents[hashOf("2")] = "3"
	wantOK(t, e.Crash(0, nil))
	wantStore(t, e, other, m)
}

func TestAnswersOfAStoreAreNewMemory(t *testing.T) {
	d, s := newStore(t)
	m := newShelf()
	for _, name := range []string{"a", "b", "c", "d", "e"} {
		publish(t, s, name, name)
		m.contents[hashOf(name)] = name
		m.tags[name] = api.Tag{Name: name, Digest: hashOf(name), Size: 1}
	}
	all, _ := s.Blobs()
	tags, _ := s.Tags()
	blobsToo, _ := s.Blobs()
	tagsToo, _ := s.Tags()
	clear(all[:cap(all)])
	clear(tags[:cap(tags)])
	if !slices.Equal(blobsToo, m.blobs()) || !slices.Equal(tagsToo, m.index()) {
		t.Errorf("P2: two answers share memory: %v, %v", blobsToo, tagsToo)
	}
	wantStore(t, d, s, m)
}
