package blobs_test

import (
	"math"
	"slices"
	"testing"

	"blobs/api"
	"blobs/blobs"
)

func TestSpoil(t *testing.T) {
	d := diskWith(t, 10, "a", "\x00\x01\xff", "b", "x", "c", "")
	wantOK(t, d.Spoil("a", 0, 1), d.Spoil("a", 1, 255), d.Spoil("a", 2, 128))
	wantFiles(t, d, "a", "\x01\xfe\x7f", "b", "x", "c", "")
	wantOK(t, d.Spoil("a", 2, 128), d.Spoil("a", 2, 3))
	wantFiles(t, d, "a", "\x01\xfe\xfc", "b", "x", "c", "")
	for _, mask := range []int{math.MinInt, -1, 0, 256, 257, 512, math.MaxInt} {
		wantErrno(t, "P8: Spoil with no mask", d.Spoil("a", 0, mask), api.ErrArg)
	}
	for _, at := range []int{math.MinInt, -1, 3, math.MaxInt} {
		wantErrno(t, "P8: Spoil of no byte", d.Spoil("a", at, 1), api.ErrArg)
	}
	wantErrno(t, "P8: Spoil of a file without bytes", d.Spoil("c", 0, 1), api.ErrArg)
	wantFiles(t, d, "a", "\x01\xfe\xfc", "b", "x", "c", "")
	wantSteps(t, d, 7)
}

func TestSpoiltBytesOutlastACrashAsFarAsTheyDid(t *testing.T) {
	d := diskWith(t, 10, "a", "1234")
	wantOK(t, d.Append("a", "5678"), d.Spoil("a", 1, 1), d.Spoil("a", 4, 1), d.Spoil("a", 7, 1), d.Crash(0, []int{1}))
	wantFiles(t, d, "a", "13344")
}

func TestSpoilOfABrokenDisk(t *testing.T) {
	d := diskWith(t, 10, "a", "12")
	wantOK(t, d.Break(0), d.Spoil("a", 0, 2))
	wantFiles(t, d, "a", "32")
	wantErrno(t, "P8: Spoil of no file", d.Spoil("b", 0, 1), api.ErrFile)
}

// brokenCalls has the six that write, each refused by a disk that is not broken, and each not.
func brokenCalls(d *blobs.Disk) []api.Errno {
	return []api.Errno{
		d.Append("a", "x"), d.Append("new", "x"), d.Append("a", "more than there is room for"),
		d.Rename("a", "new"), d.Rename("a", "b"), d.Rename("none", "b"),
		d.Remove("a"), d.Remove("none"),
		d.Truncate("a", 0), d.Truncate("a", -1), d.Truncate("none", 0),
		d.Sync("b"), d.Sync("none"),
		d.SyncDir(),
	}
}

// wantBroken: the disk, whose files these are, does nothing any more.
func wantBroken(t *testing.T, d *blobs.Disk, files ...string) {
	t.Helper()
	steps, _ := d.Steps()
	wantOK(t, brokenCalls(d)...)
	wantErrno(t, "P8: Append of no path", d.Append("", "x"), api.ErrPath)
	wantErrno(t, "P8: Rename to no path", d.Rename("none", ""), api.ErrPath)
	wantErrno(t, "P8: Rename of no path", d.Rename("", "none"), api.ErrPath)
	wantErrno(t, "P8: Remove of no path", d.Remove(""), api.ErrPath)
	wantErrno(t, "P8: Truncate of no path", d.Truncate("", 0), api.ErrPath)
	wantErrno(t, "P8: Sync of no path", d.Sync(""), api.ErrPath)
	wantFiles(t, d, files...)
	wantSteps(t, d, steps)
}

// wantWhole: the disk takes steps and counts them.
func wantWhole(t *testing.T, d *blobs.Disk, steps int) {
	t.Helper()
	before, _ := d.Steps()
	for range steps {
		wantOK(t, d.SyncDir())
	}
	wantSteps(t, d, before+steps)
}

func TestBreakAtOnce(t *testing.T) {
	d := diskWith(t, 10, "a", "12", "b", "34")
	wantOK(t, d.Append("b", "5"), d.Append("c", "6"), d.Break(0))
	wantBroken(t, d, "a", "12", "b", "345", "c", "6")
	wantOK(t, d.Crash(0, nil))
	wantFiles(t, d, "a", "12", "b", "34")
	wantWhole(t, d, 9)
}

func TestBreakBehindSteps(t *testing.T) {
	d := diskWith(t, 10, "a", "12", "b", "34")
	wantOK(t, d.Break(6), d.Append("a", "5"), d.Sync("a"))
	wantErrno(t, "P8: Append of too much", d.Append("a", "123456"), api.ErrSpace)
	wantErrno(t, "P8: Remove of no file", d.Remove("none"), api.ErrFile)
	wantErrno(t, "P8: Append of no path", d.Append("", "x"), api.ErrPath)
	wantOK(t, d.Spoil("a", 0, 2))
	wantOK(t, d.Rename("b", "c"), d.Truncate("c", 1), d.SyncDir(), d.Rename("c", "c"))
	wantBroken(t, d, "a", "325", "c", "3")
	wantOK(t, d.Crash(9, nil))
	wantFiles(t, d, "a", "325", "c", "3")
}

func TestALaterBreakCountsAnew(t *testing.T) {
	d := diskWith(t, 10, "a", "12", "b", "34")
	wantOK(t, d.Break(1), d.Break(3))
	wantWhole(t, d, 3)
	wantBroken(t, d, "a", "12", "b", "34")
	wantOK(t, d.Break(2))
	wantWhole(t, d, 2)
	wantBroken(t, d, "a", "12", "b", "34")
	wantOK(t, d.Break(5), d.Break(0))
	wantBroken(t, d, "a", "12", "b", "34")
	wantOK(t, d.Break(math.MaxInt))
	wantWhole(t, d, 9)
}

func TestBreakBelowZeroChangesNothing(t *testing.T) {
	d := diskWith(t, 10, "a", "12", "b", "34")
	for _, n := range []int{-1, math.MinInt} {
		wantErrno(t, "P8: Break below 0", d.Break(n), api.ErrArg)
		wantWhole(t, d, 2)
	}
	wantOK(t, d.Break(1))
	wantErrno(t, "P8: Break below 0", d.Break(-1), api.ErrArg)
	wantWhole(t, d, 1)
	wantErrno(t, "P8: Break below 0", d.Break(-1), api.ErrArg)
	wantBroken(t, d, "a", "12", "b", "34")
}

func TestACrashEndsABreak(t *testing.T) {
	d := diskWith(t, 10, "a", "12", "b", "34")
	wantOK(t, d.Break(2), d.SyncDir(), d.Crash(0, nil))
	wantWhole(t, d, 9)
	wantOK(t, d.Break(0), d.Crash(0, nil))
	wantWhole(t, d, 9)
}

// changedDisk has changes of paths of each kind that are not synced, and bytes that are not: what is appended last to each file.
func changedDisk(t *testing.T) *blobs.Disk {
	t.Helper()
	d := diskWith(t, 100, "a", "12", "b", "45", "c", "")
	wantOK(t, d.Append("a", "3"), d.Append("c", "6"))
	wantOK(t, d.Append("d", "789"), d.Rename("a", "x"), d.Remove("b"), d.Rename("d", "c"), d.Append("b", "new"), d.Rename("x", "x"))
	return d
}

func TestCrashKeepsTheFirstChangesOfPaths(t *testing.T) {
	after := [][]string{
		{"a", "123", "b", "45", "c", "6"},
		{"a", "123", "b", "45", "c", "6", "d", "789"},
		{"b", "45", "c", "6", "d", "789", "x", "123"},
		{"c", "6", "d", "789", "x", "123"},
		{"c", "789", "x", "123"},
		{"b", "new", "c", "789", "x", "123"},
	}
	for paths, files := range after {
		d := changedDisk(t)
		wantOK(t, d.Crash(paths, []int{9, 9, 9, 9, 9}))
		wantFiles(t, d, files...)
	}
	for paths, files := range map[int][]string{-1: after[0], math.MinInt: after[0], 6: after[5], math.MaxInt: after[5]} {
		d := changedDisk(t)
		wantOK(t, d.Crash(paths, []int{9, 9, 9, 9, 9}))
		wantFiles(t, d, files...)
	}
}

func TestCrashKeepsSyncedBytesAndTheFirstOnesBehind(t *testing.T) {
	for _, c := range []struct {
		keep    []int
		a, b, c string
	}{
		{nil, "12", "", "x"},
		{[]int{}, "12", "", "x"},
		{[]int{0, 0, 0}, "12", "", "x"},
		{[]int{1}, "123", "", "x"},
		{[]int{0, 2}, "12", "67", "x"},
		{[]int{-1, 1, -7}, "12", "6", "x"},
		{[]int{math.MinInt, math.MaxInt, math.MinInt}, "12", "678", "x"},
		{[]int{3, 4, 1}, "12345", "678", "x"},
		{[]int{4, 3, 1, 9, 9}, "12345", "678", "x"},
		{[]int{math.MaxInt, math.MaxInt, math.MaxInt}, "12345", "678", "x"},
	} {
		d := diskWith(t, 100, "a", "12", "c", "x")
		wantOK(t, d.Append("a", "345"), d.Append("b", "678"))
		before := slices.Clone(c.keep)
		wantOK(t, d.Crash(1, c.keep))
		wantFiles(t, d, "a", c.a, "b", c.b, "c", c.c)
		if !slices.Equal(c.keep, before) {
			t.Errorf("P2: Crash changed its list %v to %v", before, c.keep)
		}
	}
}

func TestARenameToTheSamePathIsNoChange(t *testing.T) {
	d := diskWith(t, 100, "a", "1")
	wantOK(t, d.Rename("a", "a"), d.Append("b", "2"), d.Sync("b"), d.Append("c", "3"), d.Crash(1, nil))
	wantFiles(t, d, "a", "1", "b", "2")
}

// keep goes by the paths that survive, not by those that were there.
func TestKeepIsByThePathsThatSurvive(t *testing.T) {
	d := diskWith(t, 100, "b", "", "c", "")
	wantOK(t, d.Append("b", "123"), d.Append("c", "456"), d.Rename("b", "z"), d.Append("a", "789"))
	wantOK(t, d.Crash(1, []int{1, 2, 3}))
	wantFiles(t, d, "c", "4", "z", "12")
}

func TestWhatACrashLeavesIsSynced(t *testing.T) {
	d := changedDisk(t)
	wantOK(t, d.Crash(2, []int{9, 9, 2, 9}))
	left := []string{"b", "45", "c", "6", "d", "78", "x", "123"}
	wantFiles(t, d, left...)
	for _, paths := range []int{0, 1, 9} {
		wantOK(t, d.Crash(paths, nil))
		wantFiles(t, d, left...)
	}
	wantOK(t, d.Append("d", "0"), d.Crash(0, nil))
	wantFiles(t, d, left...)
	wantSteps(t, d, 16)
}

// A file is the same under another path: what is synced of it, and what is written to it then.
func TestAFileKeepsItsBytesWhenItsPathChanges(t *testing.T) {
	d := diskWith(t, 100, "a", "12")
	wantOK(t, d.Rename("a", "b"), d.Append("b", "34"), d.Sync("b"), d.Append("b", "56"), d.Crash(0, []int{1}))
	wantFiles(t, d, "a", "12345")
	wantOK(t, d.Rename("a", "b"), d.Append("a", "new"), d.Truncate("b", 1), d.Crash(1, nil))
	wantFiles(t, d, "b", "1")
	wantOK(t, d.Append("b", "2"), d.Remove("b"), d.Crash(0, []int{1}))
	wantFiles(t, d, "b", "12")
}

func TestCopy(t *testing.T) {
	d := changedDisk(t)
	files := []string{"b", "new", "c", "789", "x", "123"}
	wantOK(t, d.Break(0))
	other, e := d.Copy()
	wantOK(t, e)
	wantFiles(t, other, files...)
	wantSteps(t, other, 0)
	wantOK(t, other.Append("a", "1"), other.Sync("a"), other.Append("b", "2"), other.Remove("c"))
	wantSteps(t, other, 4)
	wantOK(t, other.Crash(0, nil))
	wantFiles(t, other, files...)
	wantBroken(t, d, files...)
	wantOK(t, d.Crash(0, nil))
	wantFiles(t, d, "a", "12", "b", "45", "c", "")
	wantFiles(t, other, files...)
}

func TestACopyHasTheSameRoom(t *testing.T) {
	for _, room := range []int{-3, 0, 4} {
		d := blobs.NewDisk(room)
		d.Append("a", "1234")
		other, _ := d.Copy()
		wantErrno(t, "P8: Append to the copy of a full disk", other.Append("b", "5"), api.ErrSpace)
		wantOK(t, other.Append("b", ""))
		if other.Truncate("a", 1) == api.OK {
			wantOK(t, other.Append("b", "567"))
			wantErrno(t, "P8: Append to a full copy", other.Append("b", "8"), api.ErrSpace)
		}
	}
}

func TestACopyBesideItsDisk(t *testing.T) {
	d := diskWith(t, 100, "a", "12", "b", "34")
	other, _ := d.Copy()
	wantOK(t, d.Append("a", "5"), d.Spoil("a", 0, 2), d.Remove("b"), d.Append("c", "6"), d.Break(0))
	wantFiles(t, d, "a", "325", "c", "6")
	wantFiles(t, other, "a", "12", "b", "34")
	wantOK(t, other.Append("b", "7"), other.Spoil("b", 0, 2), other.Truncate("a", 1), other.Append("a", "8"), other.Rename("a", "z"))
	wantFiles(t, d, "a", "325", "c", "6")
	wantFiles(t, other, "b", "147", "z", "18")
	wantSteps(t, other, 4)
	wantOK(t, other.Crash(1, []int{1, 1}))
	wantFiles(t, other, "b", "147", "z", "18")
	wantOK(t, d.Crash(0, nil))
	wantFiles(t, d, "a", "32", "b", "34")
	third, _ := other.Copy()
	wantOK(t, third.Remove("b"))
	wantFiles(t, other, "b", "147", "z", "18")
}

func TestCrashDoesNotKeepItsList(t *testing.T) {
	d := diskWith(t, 100, "a", "")
	keep := []int{1, 2, 3}
	wantOK(t, d.Append("a", "12345"), d.Crash(0, keep))
	keep[0] = 3
	wantFiles(t, d, "a", "1")
	wantOK(t, d.Append("a", "2345"), d.Crash(0, nil))
	wantFiles(t, d, "a", "1")
}

// Two disks come through the same calls, but one through refused ones besides: whatever crash follows, they must not differ.
func TestRefusedCallsChangeNothing(t *testing.T) {
	for paths := range 7 {
		for _, keep := range [][]int{nil, {1, 1, 1, 1, 1}, {9, 9, 9, 9, 9}} {
			d, asked := changedDisk(t), changedDisk(t)
			wantOK(t, d.Break(1), asked.Break(1))
			for _, e := range []api.Errno{
				asked.Append("", ""), asked.Append("x", string(make([]byte, 101))), asked.Append("new", string(make([]byte, 101))),
				asked.Rename("", "x"), asked.Rename("x", ""), asked.Rename("none", "x"), asked.Rename("none", "none"), asked.Remove(""), asked.Remove("none"),
				asked.Truncate("", 0), asked.Truncate("none", 0), asked.Truncate("x", -1), asked.Truncate("x", 4), asked.Sync(""), asked.Sync("none"),
				asked.Spoil("", 0, 1), asked.Spoil("none", 0, 1), asked.Spoil("x", 0, 0), asked.Spoil("x", 0, 256), asked.Spoil("x", 3, 1), asked.Break(-1),
			} {
				if e == api.OK {
					t.Error("P1: a wrong call is not refused")
				}
			}
			wantFiles(t, asked, filesOf(t, d)...)
			wantOK(t, d.Append("x", "0"), asked.Append("x", "0"), d.Append("x", "1"), asked.Append("x", "1"))
			wantFiles(t, asked, filesOf(t, d)...)
			wantOK(t, d.Crash(paths, keep), asked.Crash(paths, keep))
			wantFiles(t, asked, filesOf(t, d)...)
			steps, _ := d.Steps()
			wantSteps(t, asked, steps)
		}
	}
}
