// Package disk has files whose bytes and paths are synced apart, on a disk that can crash and break.
package disk

import (
	"maps"
	"slices"

	"blobs/api"
)

// never stands in place of a number of steps: counting down does not come to it.
const never = -1

// Disk has the files that are under a path now, and the paths that outlast a crash.
type Disk struct {
	room    int
	files   map[string]*file
	lasting map[string]*file
	changes []change // in their order they turn lasting into files
	steps   int
	left    int // steps until it is broken, or never
}

// New makes an empty disk.
func New(room int) *Disk {
	return &Disk{room: max(room, 0), files: map[string]*file{}, lasting: map[string]*file{}, left: never}
}

// Read tells what is in a file.
func (d *Disk) Read(path string) (string, error) {
	f, err := d.find(path)
	if err != nil {
		return "", &StepError{"Read", err}
	}
	return string(f.bytes), nil
}

// List tells the paths, the lesser first.
func (d *Disk) List() []string { return sortedPaths(d.files) }

// Used tells how many bytes all files have.
func (d *Disk) Used() int {
	used := 0
	for _, f := range d.files {
		used += len(f.bytes)
	}
	return used
}

// Fit refuses, if so many bytes are more than there is room for on the disk when it has no files.
func (d *Disk) Fit(n int) error {
	if n > d.room {
		return &StepError{"Fit", Refusal(api.ErrSpace)}
	}
	return nil
}

// Steps tells how many steps were taken.
func (d *Disk) Steps() int { return d.steps }

func (d *Disk) find(path string) (*file, error) {
	if isNoPath(path) {
		return nil, Refusal(api.ErrPath)
	}
	f := d.files[path]
	if f == nil {
		return nil, Refusal(api.ErrFile)
	}
	return f, nil
}

func isNoPath(path string) bool { return path == "" || len(path) > api.MaxPath }

func sortedPaths(files map[string]*file) []string { return slices.Sorted(maps.Keys(files)) }
