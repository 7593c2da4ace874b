package blobs

import (
	"errors"

	"blobs/api"
	"blobs/disk"
)

// Disk is files.
type Disk struct{ files *disk.Disk }

// errnoOf asks what came up from the disk why a step was refused. The disk wraps nothing but refusals, so none is in nil alone.
func errnoOf(err error) api.Errno {
	var why disk.Refusal
	if errors.As(err, &why) {
		return api.Errno(why)
	}
	return api.OK
}

// NewDisk makes an empty disk (P6).
func NewDisk(room int) *Disk { return &Disk{disk.New(room)} }

// Append writes at the end of a file (P7).
func (d *Disk) Append(path string, b string) api.Errno {
	if d == nil {
		return api.ErrNil
	}
	return errnoOf(d.files.Append(path, b))
}

// Rename gives a file another path (P7).
func (d *Disk) Rename(from string, to string) api.Errno {
	if d == nil {
		return api.ErrNil
	}
	return errnoOf(d.files.Rename(from, to))
}

// Remove removes a file (P7).
func (d *Disk) Remove(path string) api.Errno {
	if d == nil {
		return api.ErrNil
	}
	return errnoOf(d.files.Remove(path))
}

// Truncate cuts a file (P7).
func (d *Disk) Truncate(path string, n int) api.Errno {
	if d == nil {
		return api.ErrNil
	}
	return errnoOf(d.files.Truncate(path, n))
}

// Sync makes a file's bytes outlast a crash (P7).
func (d *Disk) Sync(path string) api.Errno {
	if d == nil {
		return api.ErrNil
	}
	return errnoOf(d.files.Sync(path))
}

// SyncDir makes all paths outlast a crash (P7).
func (d *Disk) SyncDir() api.Errno {
	if d == nil {
		return api.ErrNil
	}
	return errnoOf(d.files.SyncDir())
}

// Read tells what is in a file (P7).
func (d *Disk) Read(path string) (string, api.Errno) {
	if d == nil {
		return "", api.ErrNil
	}
	b, err := d.files.Read(path)
	return b, errnoOf(err)
}

// List tells the paths (P7).
func (d *Disk) List() ([]string, api.Errno) {
	if d == nil {
		return nil, api.ErrNil
	}
	return d.files.List(), api.OK
}

// Used tells how many bytes all files have (P7).
func (d *Disk) Used() (int, api.Errno) {
	if d == nil {
		return 0, api.ErrNil
	}
	return d.files.Used(), api.OK
}

// Steps tells how many calls have written (P7).
func (d *Disk) Steps() (int, api.Errno) {
	if d == nil {
		return 0, api.ErrNil
	}
	return d.files.Steps(), api.OK
}

// Spoil changes a byte of a file (P8).
func (d *Disk) Spoil(path string, at int, mask int) api.Errno {
	if d == nil {
		return api.ErrNil
	}
	return errnoOf(d.files.Spoil(path, at, mask))
}

// Break lets the disk break (P8).
func (d *Disk) Break(n int) api.Errno {
	if d == nil {
		return api.ErrNil
	}
	return errnoOf(d.files.Break(n))
}

// Crash loses what was not synced (P8).
func (d *Disk) Crash(paths int, keep []int) api.Errno {
	if d == nil {
		return api.ErrNil
	}
	d.files.Crash(paths, keep)
	return api.OK
}

// Copy makes another disk of what is on this one (P8).
func (d *Disk) Copy() (*Disk, api.Errno) {
	if d == nil {
		return nil, api.ErrNil
	}
	return &Disk{d.files.Copy()}, api.OK
}
