package blobs_test

import (
	"math"
	"slices"
	"strings"
	"testing"
	"unsafe"

	"blobs/api"
	"blobs/blobs"
)

func wantOK(t *testing.T, l ...api.Errno) {
	t.Helper()
	for i, e := range l {
		if e != api.OK {
			t.Errorf("call %d answers %d, want OK", i, e)
		}
	}
}

func wantErrno(t *testing.T, what string, e api.Errno, want api.Errno) {
	t.Helper()
	if e != want {
		t.Errorf("%s answers %d, want %d", what, e, want)
	}
}

func wantSteps(t *testing.T, d *blobs.Disk, want int) {
	t.Helper()
	if n, e := d.Steps(); n != want || e != api.OK {
		t.Errorf("P7: Steps = %d, %d, want %d", n, e, want)
	}
}

// filesOf is each path and, behind it, the file's bytes, as List has the paths.
func filesOf(t *testing.T, d *blobs.Disk) []string {
	t.Helper()
	paths, e := d.List()
	wantErrno(t, "P7: List", e, api.OK)
	var files []string
	for _, path := range paths {
		b, e := d.Read(path)
		wantErrno(t, "P7: Read of a path of List", e, api.OK)
		files = append(files, path, b)
	}
	return files
}

// wantFiles: the disk has just these files, each a path and bytes, the lesser paths first.
func wantFiles(t *testing.T, d *blobs.Disk, files ...string) {
	t.Helper()
	if l := filesOf(t, d); !slices.Equal(l, files) {
		t.Errorf("P7: the files are %q, want %q", l, files)
	}
	want := 0
	for i := 1; i < len(files); i += 2 {
		want += len(files[i])
	}
	if used, e := d.Used(); used != want || e != api.OK {
		t.Errorf("P7: Used = %d, %d, want %d", used, e, want)
	}
}

// diskWith has these files, each a path and bytes, all of it synced.
func diskWith(t *testing.T, room int, files ...string) *blobs.Disk {
	t.Helper()
	d := blobs.NewDisk(room)
	for i := 0; i < len(files); i += 2 {
		wantOK(t, d.Append(files[i], files[i+1]), d.Sync(files[i]))
	}
	wantOK(t, d.SyncDir())
	return d
}

func TestNewDisk(t *testing.T) {
	for _, room := range []int{math.MinInt, -1, 0, 1, 1000, math.MaxInt} {
		d := blobs.NewDisk(room)
		wantFiles(t, d)
		wantSteps(t, d, 0)
		if room <= 0 {
			wantErrno(t, "P6: a byte on a disk without room", d.Append("a", "x"), api.ErrSpace)
			wantFiles(t, d)
		} else {
			wantErrno(t, "P6: a byte on a disk with room", d.Append("a", "x"), api.OK)
			wantFiles(t, d, "a", "x")
		}
		wantErrno(t, "P6: a file without bytes", d.Append("b", ""), api.OK)
	}
}

func TestAppend(t *testing.T) {
	d := blobs.NewDisk(100)
	wantOK(t, d.Append("b", "12"), d.Append("a", "\x00\xff"), d.Append("b", ""), d.Append("b", "345"), d.Append("c", ""))
	wantFiles(t, d, "a", "\x00\xff", "b", "12345", "c", "")
	wantSteps(t, d, 5)
}

func TestAppendUntilTheRoomIsUsedUp(t *testing.T) {
	d := blobs.NewDisk(5)
	wantErrno(t, "P7: Append of more than the room", d.Append("a", "123456"), api.ErrSpace)
	wantFiles(t, d)
	wantOK(t, d.Append("a", "12"))
	wantErrno(t, "P7: Append to a file of more than is left", d.Append("a", "3456"), api.ErrSpace)
	wantErrno(t, "P7: Append to a new file of more than is left", d.Append("b", "3456"), api.ErrSpace)
	wantFiles(t, d, "a", "12")
	wantOK(t, d.Append("b", "345"), d.Append("a", ""), d.Append("c", ""))
	wantErrno(t, "P7: Append to a full disk", d.Append("c", "6"), api.ErrSpace)
	wantFiles(t, d, "a", "12", "b", "345", "c", "")
	wantSteps(t, d, 4)
}

func TestRoomIsOfTheFilesThatAreThereNow(t *testing.T) {
	d := diskWith(t, 6, "a", "123", "b", "456")
	wantOK(t, d.Remove("a"), d.Append("c", "789"))
	wantErrno(t, "P7: Append to a full disk", d.Append("c", "0"), api.ErrSpace)
	wantOK(t, d.Rename("b", "c"), d.Append("c", "123"))
	wantErrno(t, "P7: Append to a full disk", d.Append("c", "0"), api.ErrSpace)
	wantOK(t, d.Truncate("c", 1), d.Append("c", "23456"))
	wantFiles(t, d, "c", "423456")
}

// A crash can bring back more than there is room for: then not even an Append of nothing fits.
func TestAppendToADiskThatIsOverfull(t *testing.T) {
	d := diskWith(t, 5, "a", "12345", "b", "")
	wantOK(t, d.Remove("a"), d.Append("b", "67890"), d.Crash(0, []int{0, 5}))
	wantFiles(t, d, "a", "12345", "b", "67890")
	wantErrno(t, "P7: Append of nothing", d.Append("b", ""), api.ErrSpace)
	wantOK(t, d.Truncate("b", 0), d.Append("b", ""))
	wantErrno(t, "P7: Append of a byte", d.Append("b", "6"), api.ErrSpace)
}

func TestRename(t *testing.T) {
	d := diskWith(t, 100, "a", "1", "b", "22", "c", "333")
	wantOK(t, d.Rename("b", "x"))
	wantFiles(t, d, "a", "1", "c", "333", "x", "22")
	wantOK(t, d.Rename("x", "a"))
	wantFiles(t, d, "a", "22", "c", "333")
	wantOK(t, d.Rename("c", "c"))
	wantFiles(t, d, "a", "22", "c", "333")
	wantSteps(t, d, 10)
	wantErrno(t, "P7: Rename of a file that is gone", d.Rename("b", "a"), api.ErrFile)
	wantErrno(t, "P7: Rename of no file to itself", d.Rename("b", "b"), api.ErrFile)
}

func TestRemove(t *testing.T) {
	d := diskWith(t, 100, "a", "1", "b", "22")
	wantOK(t, d.Remove("a"))
	wantFiles(t, d, "b", "22")
	wantErrno(t, "P7: Remove of a file that is gone", d.Remove("a"), api.ErrFile)
	wantOK(t, d.Append("a", "3"))
	wantFiles(t, d, "a", "3", "b", "22")
}

func TestTruncate(t *testing.T) {
	d := diskWith(t, 100, "a", "12345", "b", "")
	wantOK(t, d.Truncate("a", 5))
	wantFiles(t, d, "a", "12345", "b", "")
	wantOK(t, d.Truncate("a", 3), d.Append("a", "x"), d.Truncate("b", 0))
	wantFiles(t, d, "a", "123x", "b", "")
	wantOK(t, d.Truncate("a", 0))
	wantFiles(t, d, "a", "", "b", "")
	for _, n := range []int{math.MinInt, -1, 1, math.MaxInt} {
		wantErrno(t, "P7: Truncate to what there is not", d.Truncate("a", n), api.ErrArg)
	}
}

func TestWhatIsSyncedBehindATruncate(t *testing.T) {
	d := diskWith(t, 100, "a", "12345")
	wantOK(t, d.Truncate("a", 2), d.Append("a", "xyz"), d.Crash(0, nil))
	wantFiles(t, d, "a", "12")
	wantOK(t, d.Append("a", "xyz"), d.Truncate("a", 4), d.Crash(0, nil))
	wantFiles(t, d, "a", "12")
	wantOK(t, d.Append("a", "xyz"), d.Truncate("a", 5), d.Crash(0, []int{2}))
	wantFiles(t, d, "a", "12xy")
	wantOK(t, d.Truncate("a", 0), d.Append("a", "new"), d.Crash(0, []int{1}))
	wantFiles(t, d, "a", "n")
}

func TestSyncIsOfBytesAndSyncDirOfPaths(t *testing.T) {
	d := blobs.NewDisk(100)
	wantOK(t, d.Append("a", "1"), d.Append("b", "2"), d.Sync("a"), d.Crash(0, []int{9, 9}))
	wantFiles(t, d)
	wantOK(t, d.Append("a", "1"), d.Append("b", "2"), d.SyncDir(), d.Sync("b"), d.Append("b", "3"), d.Append("c", "4"), d.Sync("c"), d.Crash(0, nil))
	wantFiles(t, d, "a", "", "b", "2")
	wantSteps(t, d, 10)
}

// What SyncDir syncs are the paths as they are then, with all the changes that led to them.
func TestSyncDirOfEveryChange(t *testing.T) {
	d := diskWith(t, 100, "a", "1", "b", "2", "c", "3")
	wantOK(t, d.Rename("a", "x"), d.Remove("b"), d.Append("a", "4"), d.Sync("a"), d.Rename("c", "x"), d.SyncDir(), d.Remove("a"), d.Rename("x", "y"), d.Append("z", ""), d.Crash(0, nil))
	wantFiles(t, d, "a", "4", "x", "3")
}

func TestListIsByBytes(t *testing.T) {
	paths := []string{"b", "a\xff", "\xff", "B", "a", "aa", "\x00", "a/b", "é", "a\x00", "10", "9"}
	d := blobs.NewDisk(0)
	for _, path := range paths {
		wantOK(t, d.Append(path, ""))
	}
	want := []string{"\x00", "10", "9", "B", "a", "a\x00", "a/b", "aa", "a\xff", "b", "é", "\xff"}
	if l, e := d.List(); !slices.Equal(l, want) || e != api.OK {
		t.Errorf("P7: List = %q, %d, want %q", l, e, want)
	}
}

func TestThePathsThatThereAre(t *testing.T) {
	longest := strings.Repeat("p", api.MaxPath)
	for _, path := range []string{"a", "\x00", " ", "\xff\xfe", "a/../b", longest} {
		d := blobs.NewDisk(10)
		wantOK(t, d.Append(path, "123"), d.Truncate(path, 2), d.Sync(path), d.Rename(path, path), d.Spoil(path, 0, 2), d.SyncDir(), d.Crash(0, nil))
		wantFiles(t, d, path, "32")
		wantOK(t, d.Rename(path, "x"), d.Rename("x", path), d.Remove(path))
		wantFiles(t, d)
	}
}

// pathCalls has every call with a path, the other arguments as wrong as they can be.
func pathCalls(d *blobs.Disk, path string) map[string]api.Errno {
	b, read := d.Read(path)
	if b != "" {
		read = -1
	}
	return map[string]api.Errno{
		"Append":         d.Append(path, "more than there is room for"),
		"Rename":         d.Rename(path, "a"),
		"Rename to one":  d.Rename(path, path),
		"Rename to none": d.Rename("none", path),
		"Remove":         d.Remove(path),
		"Truncate":       d.Truncate(path, -1),
		"Sync":           d.Sync(path),
		"Read":           read,
		"Spoil":          d.Spoil(path, -1, 0),
	}
}

func TestNoPath(t *testing.T) {
	for _, path := range []string{"", strings.Repeat("p", api.MaxPath+1), strings.Repeat("p", 5000)} {
		d := diskWith(t, 3, "a", "123")
		for call, e := range pathCalls(d, path) {
			wantErrno(t, "P7, P8: "+call+" of no path", e, api.ErrPath)
		}
		wantErrno(t, "P7: Rename to no path", d.Rename("a", path), api.ErrPath)
		wantFiles(t, d, "a", "123")
		wantSteps(t, d, 3)
	}
}

func TestNoFile(t *testing.T) {
	for _, path := range []string{"b", "A", "a\x00", strings.Repeat("p", api.MaxPath)} {
		d := diskWith(t, 3, "a", "123")
		for call, e := range pathCalls(d, path) {
			want := api.ErrFile
			if call == "Append" {
				want = api.ErrSpace
			}
			wantErrno(t, "P7, P8: "+call+" of no file", e, want)
		}
		wantFiles(t, d, "a", "123")
		wantSteps(t, d, 3)
	}
}

func TestADiskThatIsNil(t *testing.T) {
	var d *blobs.Disk
	for _, path := range []string{"", "a"} {
		for call, e := range pathCalls(d, path) {
			wantErrno(t, "P1: "+call+" of a disk that is nil", e, api.ErrNil)
		}
	}
	paths, e1 := d.List()
	used, e2 := d.Used()
	steps, e3 := d.Steps()
	other, e4 := d.Copy()
	for i, e := range []api.Errno{e1, e2, e3, e4, d.SyncDir(), d.Break(-1), d.Break(0), d.Crash(-1, nil), d.Crash(1, []int{1})} {
		if e != api.ErrNil {
			t.Errorf("P1: call %d of a disk that is nil answers %d", i, e)
		}
	}
	if len(paths) != 0 || used != 0 || steps != 0 || other != nil {
		t.Errorf("P1: a disk that is nil answers %q, %d, %d, %v", paths, used, steps, other)
	}
}

func TestTwoDisksSideBySide(t *testing.T) {
	d, other := blobs.NewDisk(5), blobs.NewDisk(5)
	wantOK(t, d.Append("a", "12345"), d.Sync("a"), d.SyncDir(), other.Append("a", "xyz"), d.Break(0), other.Append("b", "pq"))
	wantFiles(t, d, "a", "12345")
	wantFiles(t, other, "a", "xyz", "b", "pq")
	wantSteps(t, d, 3)
	wantSteps(t, other, 2)
	wantOK(t, other.Crash(0, nil), d.Remove("a"))
	wantFiles(t, d, "a", "12345")
	wantFiles(t, other)
}

func TestListAnswersNewMemory(t *testing.T) {
	d := diskWith(t, 10, "a", "1", "b", "2", "c", "3")
	l, _ := d.List()
	other, _ := d.List()
	for i := range l[:cap(l)] {
		l[:cap(l)][i] = "spoilt"
	}
	if !slices.Equal(other, []string{"a", "b", "c"}) {
		t.Errorf("P2: two answers of List share memory: %q", other)
	}
	wantFiles(t, d, "a", "1", "b", "2", "c", "3")
}

// A path that is handed in may be a piece of a long text, which a disk must not hold on to.
func TestPathsAreNotKept(t *testing.T) {
	d := blobs.NewDisk(10)
	long := strings.Repeat("p", 5000)
	wantOK(t, d.Append(long[:5], ""), d.Append("x", ""), d.Rename("x", long[:6]))
	paths, _ := d.List()
	for _, path := range paths {
		if unsafe.StringData(path) == unsafe.StringData(long) {
			t.Errorf("P2: the path %q that is answered is a piece of what was handed in", path)
		}
	}
}
