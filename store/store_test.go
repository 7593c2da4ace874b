package store

import (
	"errors"
	"slices"
	"strings"
	"testing"

	"blobs/api"
	"blobs/digest"
	"blobs/disk"
	"blobs/index"
)

func open(t *testing.T, d *disk.Disk) *Store {
	t.Helper()
	s, err := Open(d)
	if err != nil {
		t.Fatal(err)
	}
	return s
}

// wantStep: the error tells the step that was refused, and why.
func wantStep(t *testing.T, err error, step string, why api.Errno) {
	t.Helper()
	var at *disk.StepError
	var refusal disk.Refusal
	if !errors.As(err, &at) || at.Step != step || !errors.As(err, &refusal) || api.Errno(refusal) != why {
		t.Errorf("refused with %v, want %s and %d", err, step, why)
	}
}

func TestARefusedStepIsToldWithItsName(t *testing.T) {
	_, err := Open(disk.New(len(layoutText)))
	wantStep(t, err, "Fit", api.ErrSpace)
	d := disk.New(100)
	s := open(t, d)
	_, err = s.Put(strings.Repeat("x", 100))
	wantStep(t, err, "Append", api.ErrSpace)
	_, err = s.Publish("a", "x")
	wantStep(t, err, "Append", api.ErrSpace)
	wantStep(t, s.Delete(digest.Of("none")), "Remove", api.ErrFile)
}

// A file that is laid must not stay behind, wherever the call is stopped: the next one would be laid on top of it.
func TestWhatIsLaidIsTakenBack(t *testing.T) {
	d := disk.New(200)
	s := open(t, d)
	paths := d.List()
	for _, files := range [][]file{
		{{"a", strings.Repeat("x", 200)}},
		{{"a", "1"}, {"b", strings.Repeat("x", 200)}},
		{{"a", "1"}, {"b", "2"}, {"c", strings.Repeat("x", 200)}},
		{{"", "1"}},
		{{"", "1"}, {"b", "2"}},
	} {
		if err := s.write(files); err == nil {
			t.Errorf("%v is written", files)
		}
		if l := d.List(); !slices.Equal(l, paths) {
			t.Errorf("%v leaves %q", files, l)
		}
		d.Crash(0, nil)
		if l := d.List(); !slices.Equal(l, paths) {
			t.Errorf("%v leaves %q behind a crash", files, l)
		}
	}
}

// A file that is laid without the one ahead of it would tell an Open that the change was made.
func TestTheLastLaidIsTakenBackFirst(t *testing.T) {
	d := disk.New(200)
	s := open(t, d)
	if err := d.Break(3); err != nil {
		t.Fatal(err)
	}
	if err := s.write([]file{{"a", "1"}, {"b", "2"}, {"c", strings.Repeat("x", 200)}}); err == nil {
		t.Error("what there is no room for is written")
	}
	if l := d.List(); !slices.Contains(l, besidePath(0)) || slices.Contains(l, besidePath(1)) {
		t.Errorf("a file is taken back, and there are %q", l)
	}
}

func TestDigestAt(t *testing.T) {
	d := digest.Of("a")
	if got, ok := digestAt(contentPath(d)); !ok || got != d {
		t.Errorf("digestAt = %v, %v", got, ok)
	}
	for _, path := range []string{"", "blobs/", d.Text(), "blobs" + d.Text(), "blobs/" + d.Text()[1:], "blobs/" + d.Text() + "0", "blobs/blobs/" + d.Text(), "x" + contentPath(d)} {
		if got, ok := digestAt(path); ok || got != (digest.Digest{}) {
			t.Errorf("digestAt(%s) = %v, %v", path, got, ok)
		}
	}
}

// twins is a store with a long content that a tag names. No two contents with one digest are known, so the tests that need them hand in another one under its digest.
func twins(t *testing.T) (d *disk.Disk, s *Store, both digest.Digest) {
	t.Helper()
	d = disk.New(1000)
	s = open(t, d)
	both, err := s.Publish("old", "the longer one")
	if err != nil {
		t.Fatal(err)
	}
	return d, s, both
}

// wantSizes: the tags, in the store and in the file with its index, tell the length of the content's file, which has these bytes.
func wantSizes(t *testing.T, d *disk.Disk, s *Store, both digest.Digest, want string, names ...string) {
	t.Helper()
	if b, err := d.Read(contentPath(both)); b != want || err != nil {
		t.Errorf("the file has %q, %v, want %q", b, err, want)
	}
	var entries []index.Entry
	for _, name := range names {
		entries = append(entries, index.Entry{Name: name, Digest: both, Size: len(want)})
	}
	for _, x := range []*Store{s, open(t, d)} {
		if l := x.Tags(); !slices.Equal(l, entries) {
			t.Errorf("P13: the tags are %v, want %v", l, entries)
		}
	}
	if text, _ := d.Read(indexPath); text != index.Print(entries) {
		t.Errorf("P9: the index is %s, want %s", text, index.Print(entries))
	}
}

func TestPublishOfAnotherContentWithTheDigestOfOneThatIsThere(t *testing.T) {
	for _, name := range []string{"new", "old"} {
		d, s, both := twins(t)
		if err := s.keep(both, "a shorter", s.tagsWith(name, both)); err != nil {
			t.Fatal(err)
		}
		wantSizes(t, d, s, both, "the longer one", slices.Compact([]string{name, "old"})...)
	}
}

// The file that was there is spoilt, so the one that is put in its place is the content, for the tags that named it before, too.
func TestAnotherContentInPlaceOfOneThatIsSpoilt(t *testing.T) {
	for _, names := range [][]string{{"old"}, {"new", "old"}} {
		d, s, both := twins(t)
		if err := d.Spoil(contentPath(both), 0, 1); err != nil {
			t.Fatal(err)
		}
		tags := s.tags
		if len(names) > 1 {
			tags = s.tagsWith(names[0], both)
		}
		if err := s.keep(both, "a shorter", tags); err != nil {
			t.Fatal(err)
		}
		wantSizes(t, d, s, both, "a shorter", names...)
	}
}

// A size is told by the tags of this content alone.
func TestOtherTagsKeepTheirSizes(t *testing.T) {
	_, s, both := twins(t)
	if _, err := s.Publish("other", "xyz"); err != nil {
		t.Fatal(err)
	}
	if err := s.Tag("more", both); err != nil {
		t.Fatal(err)
	}
	for name, size := range map[string]int{"more": 14, "old": 14, "other": 3} {
		if e := s.tags[name]; e.Size != size {
			t.Errorf("P12: the tag %s tells the size %d, want %d", name, e.Size, size)
		}
	}
}

// What is refused changes nothing, not even what a torn Open has left.
func TestOpenWithTooLittleRoomTouchesNothing(t *testing.T) {
	d := disk.New(len(layoutText))
	if err := d.Append(besidePath(0), "x"); err != nil {
		t.Fatal(err)
	}
	if s, err := Open(d); s != nil || err == nil {
		t.Errorf("P9: Open = %v, %v, want a refusal", s, err)
	}
	if l := d.List(); !slices.Equal(l, []string{besidePath(0)}) || d.Steps() != 1 {
		t.Errorf("P1: the files are %q behind %d steps", l, d.Steps())
	}
}

// What no store has at rest is not there behind an Open.
func TestOpenRemovesWhatIsForeign(t *testing.T) {
	d := disk.New(1000)
	s := open(t, d)
	if _, err := s.Put("a"); err != nil {
		t.Fatal(err)
	}
	paths := d.List()
	for _, path := range []string{"a", "z", "blobs/", "blobs/x", "beside/0", "layout2", "index.new"} {
		if err := d.Append(path, "x"); err != nil {
			t.Fatal(err)
		}
	}
	open(t, d)
	d.Crash(0, nil)
	if l := d.List(); !slices.Equal(l, paths) {
		t.Errorf("the files are %q, want %q", l, paths)
	}
}
