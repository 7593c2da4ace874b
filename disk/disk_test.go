package disk

import (
	"errors"
	"strings"
	"testing"

	"blobs/api"
)

// refusals has for each call that can refuse one that is refused, with what it is refused for.
func refusals(d *Disk) map[string]struct {
	err error
	why api.Errno
} {
	_, read := d.Read("none")
	return map[string]struct {
		err error
		why api.Errno
	}{
		"Append":   {d.Append("a", strings.Repeat("x", 11)), api.ErrSpace},
		"Rename":   {d.Rename("a", ""), api.ErrPath},
		"Remove":   {d.Remove("none"), api.ErrFile},
		"Truncate": {d.Truncate("a", 4), api.ErrArg},
		"Sync":     {d.Sync(""), api.ErrPath},
		"Read":     {read, api.ErrFile},
		"Spoil":    {d.Spoil("a", 3, 1), api.ErrArg},
		"Break":    {d.Break(-1), api.ErrArg},
		"Fit":      {d.Fit(11), api.ErrSpace},
	}
}

func TestARefusalIsWrappedWithTheStepsName(t *testing.T) {
	d := New(10)
	if err := d.Append("a", "abc"); err != nil {
		t.Fatal(err)
	}
	for step, x := range refusals(d) {
		var wrapped *StepError
		if !errors.As(x.err, &wrapped) || wrapped.Step != step {
			t.Errorf("%s answers %v, want an error with the step's name", step, x.err)
			continue
		}
		var why Refusal
		if !errors.As(x.err, &why) || api.Errno(why) != x.why {
			t.Errorf("%s is refused with %d, want %d", step, why, x.why)
		}
		if text := x.err.Error(); !strings.HasPrefix(text, step+": refused with ") {
			t.Errorf("%s is refused with the text %q", step, text)
		}
	}
}

func TestAStepThatIsTakenHasNoError(t *testing.T) {
	d := New(10)
	for i, err := range []error{d.Append("a", "abc"), d.Rename("a", "b"), d.Truncate("b", 1), d.Sync("b"), d.SyncDir(), d.Spoil("b", 0, 1), d.Break(2), d.Remove("b")} {
		if err != nil {
			t.Errorf("call %d: %v", i, err)
		}
	}
	if d.Steps() != 6 {
		t.Errorf("Steps = %d, want 6", d.Steps())
	}
}

// What is on the disk does not count, as it can be removed.
func TestFitIsOfTheWholeRoom(t *testing.T) {
	d := New(10)
	for _, b := range []string{"", "0123456789"} {
		if err := d.Append("a", b); err != nil {
			t.Fatal(err)
		}
		for n, fits := range map[int]bool{0: true, 9: true, 10: true, 11: false} {
			if err := d.Fit(n); (err == nil) != fits {
				t.Errorf("Fit(%d) = %v", n, err)
			}
		}
	}
	if err := New(-1).Fit(0); err != nil {
		t.Errorf("Fit(0) without room = %v", err)
	}
}
