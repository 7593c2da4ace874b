package store

import (
	"errors"
	"slices"
	"strings"
	"testing"

	"blobs/api"
	"blobs/digest"
	"blobs/disk"
)

func open(t *testing.T, d *disk.Disk) *Store {
	t.Helper()
	s, err := Open(d)
	if err != nil {
		t.Fatal(err)
	}
	return s
}

// wantStep: the error tells the step that was refused, and why.
func wantStep(t *testing.T, err error, step string, why api.Errno) {
	t.Helper()
	var at *disk.StepError
	var refusal disk.Refusal
	if !errors.As(err, &at) || at.Step != step || !errors.As(err, &refusal) || api.Errno(refusal) != why {
		t.Errorf("refused with %v, want %s and %d", err, step, why)
	}
}

func TestARefusedStepIsToldWithItsName(t *testing.T) {
	_, err := Open(disk.New(len(layoutText)))
	wantStep(t, err, "Append", api.ErrSpace)
	d := disk.New(100)
	s := open(t, d)
	_, err = s.Put(strings.Repeat("x", 100))
	wantStep(t, err, "Append", api.ErrSpace)
	_, err = s.Publish("a", "x")
	wantStep(t, err, "Append", api.ErrSpace)
	wantStep(t, s.Delete(digest.Of("none")), "Remove", api.ErrFile)
}

// A file that is laid must not stay behind, wherever the call is stopped: the next one would be laid on top of it.
func TestWhatIsLaidIsTakenBack(t *testing.T) {
	d := disk.New(200)
	s := open(t, d)
	paths := d.List()
	for _, files := range [][]file{
		{{"a", strings.Repeat("x", 200)}},
		{{"a", "1"}, {"b", strings.Repeat("x", 200)}},
		{{"a", "1"}, {"b", "2"}, {"c", strings.Repeat("x", 200)}},
		{{"", "1"}},
		{{"", "1"}, {"b", "2"}},
	} {
		if err := s.write(files); err == nil {
			t.Errorf("%v is written", files)
		}
		if l := d.List(); !slices.Equal(l, paths) {
			t.Errorf("%v leaves %q", files, l)
		}
		d.Crash(0, nil)
		if l := d.List(); !slices.Equal(l, paths) {
			t.Errorf("%v leaves %q behind a crash", files, l)
		}
	}
}

// A file that is laid without the one ahead of it would tell an Open that the change was made.
func TestTheLastLaidIsTakenBackFirst(t *testing.T) {
	d := disk.New(200)
	s := open(t, d)
	if err := d.Break(3); err != nil {
		t.Fatal(err)
	}
	if err := s.write([]file{{"a", "1"}, {"b", "2"}, {"c", strings.Repeat("x", 200)}}); err == nil {
		t.Error("what there is no room for is written")
	}
	if l := d.List(); !slices.Contains(l, besidePath(0)) || slices.Contains(l, besidePath(1)) {
		t.Errorf("a file is taken back, and there are %q", l)
	}
}

func TestDigestAt(t *testing.T) {
	d := digest.Of("a")
	if got, ok := digestAt(contentPath(d)); !ok || got != d {
		t.Errorf("digestAt = %v, %v", got, ok)
	}
	for _, path := range []string{"", "blobs/", d.Text(), "blobs" + d.Text(), "blobs/" + d.Text()[1:], "blobs/" + d.Text() + "0", "blobs/blobs/" + d.Text(), "x" + contentPath(d)} {
		if got, ok := digestAt(path); ok || got != (digest.Digest{}) {
			t.Errorf("digestAt(%s) = %v, %v", path, got, ok)
		}
	}
}

// What no store has at rest is not there behind an Open.
func TestOpenRemovesWhatIsForeign(t *testing.T) {
	d := disk.New(1000)
	s := open(t, d)
	if _, err := s.Put("a"); err != nil {
		t.Fatal(err)
	}
	paths := d.List()
	for _, path := range []string{"a", "z", "blobs/", "blobs/x", "beside/0", "layout2", "index.new"} {
		if err := d.Append(path, "x"); err != nil {
			t.Fatal(err)
		}
	}
	open(t, d)
	d.Crash(0, nil)
	if l := d.List(); !slices.Equal(l, paths) {
		t.Errorf("the files are %q, want %q", l, paths)
	}
}
