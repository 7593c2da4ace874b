package blobs_test

import (
	"slices"
	"strings"
	"testing"

	"blobs/api"
	"blobs/blobs"
)

// noDigests are texts that are no digests, whatever a store has.
func noDigests() []string {
	h := hashOf("a")
	return []string{"", "a", h[1:], h + "0", strings.ToUpper(h), "g" + h[1:], h[:63] + "/", h[:63] + ":", " " + h[1:], h[:63] + "\x00", "\xff" + h[1:], "blobs/" + h, strings.Repeat(h, 50)}
}

func spoil(t *testing.T, d *blobs.Disk, m *shelf, b string, at int, mask int) {
	t.Helper()
	wantErrno(t, "P8: Spoil", d.Spoil("blobs/"+hashOf(b), at, mask), api.OK)
	bytes := []byte(m.contents[hashOf(b)])
	bytes[at] ^= byte(mask)
	m.contents[hashOf(b)] = string(bytes)
}

func TestPutAndGet(t *testing.T) {
	d, s := newStore(t)
	var all []string
	for n := range 256 {
		all = append(all, string([]byte{byte(n)}))
	}
	all = append(all, "", "\x00\x00", `{"version":1}`, strings.Repeat("\xff", api.MaxBlob-1), strings.Repeat("\x00", api.MaxBlob))
	put(t, s, all...)
	for _, b := range all {
		if got, e := s.Get(hashOf(b)); got != b || e != api.OK {
			t.Errorf("P11: Get = %q, %d, want %q", got, e, b)
		}
	}
	wantStore(t, d, s, shelfWith(all, nil))
}

func TestPutOfTheLongestAndOfMore(t *testing.T) {
	d, s := newStore(t)
	longest := strings.Repeat("x", api.MaxBlob)
	put(t, s, longest)
	for _, b := range []string{longest + "x", strings.Repeat("y", 5000)} {
		wantRefused(t, "P10: Put of too much", api.ErrLong)(s.Put(b))
		wantRefused(t, "P11: Get of what was refused", api.ErrNone)(s.Get(hashOf(b)))
	}
	wantStore(t, d, s, shelfWith([]string{longest}, nil))
}

func TestPutOfNothing(t *testing.T) {
	d, s := newStore(t)
	wantRefused(t, "P11: Get of nothing, which is not there", api.ErrNone)(s.Get(hashOf("")))
	put(t, s, "")
	s = wantStore(t, d, s, shelfWith([]string{""}, nil))
	wantErrno(t, "P14: Delete", s.Delete(hashOf("")), api.OK)
	wantStore(t, d, s, newShelf())
}

func TestPutOfWhatIsThere(t *testing.T) {
	d, s := newStore(t)
	put(t, s, "abc", "")
	before, _ := d.Steps()
	put(t, s, "abc", "", "abc")
	wantSteps(t, d, before)
	wantStore(t, d, s, shelfWith([]string{"abc", ""}, nil))
}

func TestPutOfWhatIsSpoilt(t *testing.T) {
	d, s := newStore(t)
	publish(t, s, "t", "abc")
	put(t, s, "xyz")
	m := shelfWith([]string{"abc", "xyz"}, map[string]string{"t": "abc"})
	for _, b := range []string{"abc", "xyz"} {
		for at := range b {
			spoil(t, d, m, b, at, 1<<at)
			wantShelf(t, s, m)
			put(t, s, b)
			m.contents[hashOf(b)] = b
			s = wantStore(t, d, s, m)
		}
	}
	spoil(t, d, m, "abc", 0, 255)
	s = wantStore(t, d, s, m)
	put(t, s, "abc")
	m.contents[hashOf("abc")] = "abc"
	wantStore(t, d, s, m)
}

func TestGetOfNoDigestAndOfNone(t *testing.T) {
	d, s := newStore(t)
	put(t, s, "a")
	for _, x := range noDigests() {
		wantRefused(t, "P11: Get of no digest", api.ErrDigest)(s.Get(x))
	}
	for _, b := range []string{"", "b", "aa"} {
		wantRefused(t, "P11: Get of what is not there", api.ErrNone)(s.Get(hashOf(b)))
	}
	wantStore(t, d, s, shelfWith([]string{"a"}, nil))
}

func TestBlobsRise(t *testing.T) {
	d, s := newStore(t)
	var all []string
	for i := range 60 {
		all = append(all, strings.Repeat("b", (i*37)%api.MaxBlob))
	}
	put(t, s, all...)
	l, e := s.Blobs()
	if len(l) != 60 || e != api.OK || !slices.IsSortedFunc(l, func(a, b api.Blob) int { return strings.Compare(a.Digest, b.Digest) }) {
		t.Errorf("P11: Blobs = %v, %d", l, e)
	}
	wantStore(t, d, s, shelfWith(all, nil))
}

// Whatever bits of a file are turned, its bytes are not answered, and its length is.
func TestGetOfWhatIsSpoilt(t *testing.T) {
	d, s := newStore(t)
	all := []string{"", "a", "\x00\x00\x00", strings.Repeat("spoilt", 20)}
	put(t, s, all...)
	for _, b := range all {
		for at := range b {
			for bit := range 8 {
				m := shelfWith(all, nil)
				spoil(t, d, m, b, at, 1<<bit)
				wantShelf(t, s, m)
				spoil(t, d, m, b, at, 1<<bit)
			}
		}
	}
	wantStore(t, d, s, shelfWith(all, nil))
}

func TestAllFilesSpoiltButOne(t *testing.T) {
	all := []string{"", "a", "bc", "def", strings.Repeat("g", api.MaxBlob)}
	for _, whole := range all {
		d, s := newStore(t)
		put(t, s, all...)
		publish(t, s, "t", "bc")
		m := shelfWith(all, map[string]string{"t": "bc"})
		for _, b := range all {
			if b != whole && b != "" {
				spoil(t, d, m, b, len(b)/2, 255)
			}
		}
		wantStore(t, d, s, m)
	}
}

// A file's bytes may be turned into those of another content: that is not the one its digest says.
func TestAFileSpoiltIntoAnotherContent(t *testing.T) {
	d, s := newStore(t)
	put(t, s, "a", "b")
	m := shelfWith([]string{"a", "b"}, nil)
	spoil(t, d, m, "a", 0, 'a'^'b')
	s = wantStore(t, d, s, m)
	put(t, s, "b")
	wantStore(t, d, s, m)
}

func TestWhatIsSpoiltCanBeTaggedDeletedAndPruned(t *testing.T) {
	d, s := newStore(t)
	put(t, s, "abc", "def", "ghi")
	m := shelfWith([]string{"abc", "def", "ghi"}, map[string]string{"t": "abc"})
	for _, b := range []string{"abc", "def", "ghi"} {
		spoil(t, d, m, b, 1, 16)
	}
	wantErrno(t, "P12: Tag of a spoilt content", s.Tag("t", hashOf("abc")), api.OK)
	s = wantStore(t, d, s, m)
	wantErrno(t, "P14: Delete of a spoilt content with a tag", s.Delete(hashOf("abc")), api.ErrTagged)
	wantErrno(t, "P14: Delete of a spoilt content", s.Delete(hashOf("def")), api.OK)
	delete(m.contents, hashOf("def"))
	s = wantStore(t, d, s, m)
	wantPruned(t, s, 1)
	delete(m.contents, hashOf("ghi"))
	wantStore(t, d, s, m)
}
