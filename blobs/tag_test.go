package blobs_test

import (
	"strings"
	"testing"
	"unsafe"

	"blobs/api"
	"blobs/blobs"
)

func noTags() []string {
	return []string{"", "A", "aB", "-", "-a", ".", ".a", "_", "_a", "a b", " a", "a ", "a/b", "a\x00", "\x00", "a\"", "é", "a\xff", "`", "{", "/", ":", strings.Repeat("a", api.MaxTag+1), strings.Repeat("a", 5000)}
}

// fullStore has the contents a and b, and MaxTags tags of a.
func fullStore(t *testing.T) (*blobs.Disk, *blobs.Store, *shelf) {
	t.Helper()
	d, s := newStore(t)
	put(t, s, "a", "b")
	m := shelfWith([]string{"a", "b"}, nil)
	for i := range api.MaxTags {
		name := "t" + string(rune('0'+i))
		wantErrno(t, "P12: Tag", s.Tag(name, hashOf("a")), api.OK)
		m.tags[name] = api.Tag{Name: name, Digest: hashOf("a"), Size: 1}
	}
	return d, s, m
}

func TestTagAndUntag(t *testing.T) {
	d, s := newStore(t)
	put(t, s, "", "abc")
	m := shelfWith([]string{"", "abc"}, nil)
	names := []string{"a", "0", "z._-9", "a.", "a-", "aa", "9", strings.Repeat("z", api.MaxTag)}
	for i, name := range names {
		b := []string{"", "abc"}[i%2]
		wantErrno(t, "P12: Tag", s.Tag(name, hashOf(b)), api.OK)
		m.tags[name] = api.Tag{Name: name, Digest: hashOf(b), Size: len(b)}
		s = wantStore(t, d, s, m)
	}
	for _, name := range names {
		wantErrno(t, "P12: Untag", s.Untag(name), api.OK)
		delete(m.tags, name)
		s = wantStore(t, d, s, m)
		wantErrno(t, "P12: Untag of a tag that is gone", s.Untag(name), api.ErrNone)
	}
}

func TestATagOfAnotherContent(t *testing.T) {
	d, s := newStore(t)
	put(t, s, "1", "22")
	wantOK(t, s.Tag("a", hashOf("1")), s.Tag("b", hashOf("1")), s.Tag("a", hashOf("22")), s.Tag("b", hashOf("1")))
	wantStore(t, d, s, shelfWith([]string{"1", "22"}, map[string]string{"a": "22", "b": "1"}))
}

func TestNoTag(t *testing.T) {
	d, s, m := fullStore(t)
	long := strings.Repeat("x", api.MaxBlob+1)
	for _, name := range noTags() {
		wantErrno(t, "P12: Tag with no tag and no digest", s.Tag(name, "none"), api.ErrTag)
		wantErrno(t, "P12: Tag with no tag of none", s.Tag(name, hashOf("none")), api.ErrTag)
		wantErrno(t, "P12: Tag with no tag", s.Tag(name, hashOf("a")), api.ErrTag)
		wantErrno(t, "P12: Untag of no tag", s.Untag(name), api.ErrTag)
		wantRefused(t, "P13: Publish with no tag", api.ErrTag)(s.Publish(name, "new"))
		wantRefused(t, "P13: Publish with no tag of too much", api.ErrTag)(s.Publish(name, long))
	}
	wantStore(t, d, s, m)
}

func TestTagOfNoDigestAndOfNone(t *testing.T) {
	d, s, m := fullStore(t)
	for _, name := range []string{"t0", "new"} {
		for _, x := range noDigests() {
			wantErrno(t, "P12: Tag of no digest", s.Tag(name, x), api.ErrDigest)
		}
		wantErrno(t, "P12: Tag of what is not there", s.Tag(name, hashOf("none")), api.ErrNone)
		wantErrno(t, "P12: Tag of nothing, which is not there", s.Tag(name, hashOf("")), api.ErrNone)
	}
	for _, name := range []string{"t", "t00", "new"} {
		wantErrno(t, "P12: Untag of what is not there", s.Untag(name), api.ErrNone)
	}
	wantStore(t, d, s, m)
}

func TestTheMostTagsAndOneMore(t *testing.T) {
	d, s, m := fullStore(t)
	wantErrno(t, "P12: one tag more", s.Tag("new", hashOf("a")), api.ErrMany)
	wantRefused(t, "P13: one tag more", api.ErrMany)(s.Publish("new", "a"))
	s = wantStore(t, d, s, m)
	wantErrno(t, "P12: a tag that is there", s.Tag("t3", hashOf("b")), api.OK)
	m.tags["t3"] = api.Tag{Name: "t3", Digest: hashOf("b"), Size: 1}
	publish(t, s, "t4", "four")
	m.contents[hashOf("four")] = "four"
	m.tags["t4"] = api.Tag{Name: "t4", Digest: hashOf("four"), Size: 4}
	s = wantStore(t, d, s, m)
	wantOK(t, s.Untag("t7"), s.Tag("new", hashOf("a")))
	wantErrno(t, "P12: one tag more", s.Tag("t7", hashOf("a")), api.ErrMany)
	delete(m.tags, "t7")
	m.tags["new"] = api.Tag{Name: "new", Digest: hashOf("a"), Size: 1}
	wantStore(t, d, s, m)
}

func TestPublish(t *testing.T) {
	d, s := newStore(t)
	m := newShelf()
	for _, x := range [][2]string{{"a", "1"}, {"b", ""}, {"a", "22"}, {"c", "1"}, {"c", "1"}, {"0", strings.Repeat("x", api.MaxBlob)}, {"b", "22"}} {
		name, b := x[0], x[1]
		publish(t, s, name, b)
		m.contents[hashOf(b)] = b
		m.tags[name] = api.Tag{Name: name, Digest: hashOf(b), Size: len(b)}
		s = wantStore(t, d, s, m)
	}
}

func TestPublishOfWhatIsSpoilt(t *testing.T) {
	for _, name := range []string{"old", "new"} {
		d, s := newStore(t)
		publish(t, s, "old", "abc")
		m := shelfWith([]string{"abc"}, map[string]string{"old": "abc", name: "abc"})
		spoil(t, d, m, "abc", 2, 1)
		publish(t, s, name, "abc")
		m.contents[hashOf("abc")] = "abc"
		wantStore(t, d, s, m)
	}
}

func TestPublishRefused(t *testing.T) {
	d, s, m := fullStore(t)
	long := strings.Repeat("x", api.MaxBlob+1)
	wantRefused(t, "P13: Publish of too much", api.ErrLong)(s.Publish("t0", long))
	wantRefused(t, "P13: Publish of too much with a tag too many", api.ErrLong)(s.Publish("new", long))
	wantRefused(t, "P13: Publish with a tag too many", api.ErrMany)(s.Publish("new", "new"))
	wantRefused(t, "P11: Get of what was refused", api.ErrNone)(s.Get(hashOf("new")))
	wantStore(t, d, s, m)
}

func TestNoCallChangesMoreThanItsTag(t *testing.T) {
	d, s := newStore(t)
	publish(t, s, "a", "1")
	publish(t, s, "aa", "1")
	publish(t, s, "a.", "2")
	wantOK(t, s.Untag("aa"), s.Tag("a.", hashOf("1")))
	wantStore(t, d, s, shelfWith([]string{"1", "2"}, map[string]string{"a": "1", "a.": "1"}))
}

// A name that is handed in may be a piece of a long text, which a store must not hold on to.
func TestNamesAreNotKept(t *testing.T) {
	_, s := newStore(t)
	long := strings.Repeat("n", 5000)
	publish(t, s, long[:5], "a")
	wantOK(t, s.Tag(long[:6], hashOf("a")))
	tags, _ := s.Tags()
	for _, x := range tags {
		if unsafe.StringData(x.Name) == unsafe.StringData(long) {
			t.Errorf("P2: the name %q that is answered is a piece of what was handed in", x.Name)
		}
	}
}
