package blobs_test

import (
	"testing"

	"blobs/api"
	"blobs/blobs"
)

func wantPruned(t *testing.T, s *blobs.Store, want int) {
	t.Helper()
	if n, e := s.Prune(); n != want || e != api.OK {
		t.Errorf("P14: Prune = %d, %d, want %d", n, e, want)
	}
}

func TestDelete(t *testing.T) {
	d, s := newStore(t)
	put(t, s, "", "a", "b")
	wantErrno(t, "P14: Delete", s.Delete(hashOf("a")), api.OK)
	wantRefused(t, "P11: Get of what is gone", api.ErrNone)(s.Get(hashOf("a")))
	s = wantStore(t, d, s, shelfWith([]string{"", "b"}, nil))
	wantErrno(t, "P14: Delete of what is gone", s.Delete(hashOf("a")), api.ErrNone)
	put(t, s, "a")
	wantOK(t, s.Delete(hashOf("")), s.Delete(hashOf("b")))
	wantStore(t, d, s, shelfWith([]string{"a"}, nil))
}

func TestDeleteOfNoDigestAndOfNone(t *testing.T) {
	d, s := newStore(t)
	publish(t, s, "t", "a")
	for _, x := range noDigests() {
		wantErrno(t, "P14: Delete of no digest", s.Delete(x), api.ErrDigest)
	}
	wantErrno(t, "P14: Delete of what is not there", s.Delete(hashOf("b")), api.ErrNone)
	wantStore(t, d, s, shelfWith([]string{"a"}, map[string]string{"t": "a"}))
}

func TestDeleteOfWhatIsTagged(t *testing.T) {
	d, s := newStore(t)
	publish(t, s, "a", "x")
	publish(t, s, "b", "x")
	publish(t, s, "c", "y")
	for _, name := range []string{"a", "b"} {
		wantErrno(t, "P14: Delete of what a tag names", s.Delete(hashOf("x")), api.ErrTagged)
		wantErrno(t, "P12: Untag", s.Untag(name), api.OK)
	}
	wantOK(t, s.Delete(hashOf("x")), s.Tag("c", hashOf("y")))
	wantStore(t, d, s, shelfWith([]string{"y"}, map[string]string{"c": "y"}))
}

func TestPrune(t *testing.T) {
	contents := []string{"", "a", "b", "c", "d"}
	for name, c := range map[string]struct {
		contents []string
		tags     map[string]string
		left     []string
	}{
		"an empty store":      {nil, nil, nil},
		"none is tagged":      {contents, nil, nil},
		"some are tagged":     {contents, map[string]string{"x": "", "y": "c", "z": "c"}, []string{"", "c"}},
		"all but one":         {contents, map[string]string{"0": "", "1": "a", "2": "b", "3": "d"}, []string{"", "a", "b", "d"}},
		"all are tagged":      {contents, map[string]string{"0": "", "1": "a", "2": "b", "3": "c", "4": "d"}, contents},
		"one, and not tagged": {[]string{"a"}, nil, nil},
		"one, and tagged":     {[]string{"a"}, map[string]string{"x": "a"}, []string{"a"}},
	} {
		t.Run(name, func(t *testing.T) {
			d, s := newStore(t)
			put(t, s, c.contents...)
			for name, b := range c.tags {
				wantErrno(t, "P12: Tag", s.Tag(name, hashOf(b)), api.OK)
			}
			wantPruned(t, s, len(c.contents)-len(c.left))
			s = wantStore(t, d, s, shelfWith(c.left, c.tags))
			wantPruned(t, s, 0)
			wantStore(t, d, s, shelfWith(c.left, c.tags))
		})
	}
}

func TestPruneOfManyContents(t *testing.T) {
	d, s := newStore(t)
	for i := range 100 {
		put(t, s, string([]byte{byte(i), 'x'}))
	}
	publish(t, s, "t", "left")
	wantPruned(t, s, 100)
	wantStore(t, d, s, shelfWith([]string{"left"}, map[string]string{"t": "left"}))
}

func TestPruneBehindATagThatIsGone(t *testing.T) {
	d, s := newStore(t)
	publish(t, s, "a", "1")
	publish(t, s, "b", "2")
	publish(t, s, "a", "3")
	wantErrno(t, "P12: Untag", s.Untag("b"), api.OK)
	wantPruned(t, s, 2)
	wantStore(t, d, s, shelfWith([]string{"3"}, map[string]string{"a": "3"}))
}
