package disk

import (
	"maps"
	"slices"

	"blobs/api"
)

// Spoil turns bits of a byte of a file. It is no step: a broken disk spoils too.
func (d *Disk) Spoil(path string, at int, mask int) error {
	f, err := d.find(path)
	if err != nil {
		return &StepError{"Spoil", err}
	}
	if mask < 1 || mask > 255 || at < 0 || at >= len(f.bytes) {
		return &StepError{"Spoil", Refusal(api.ErrArg)}
	}
	f.bytes[at] ^= byte(mask)
	return nil
}

// Break lets the disk be broken behind n more steps.
func (d *Disk) Break(n int) error {
	if n < 0 {
		return &StepError{"Break", Refusal(api.ErrArg)}
	}
	d.left = n
	return nil
}

// Crash loses what was not synced, but for the first changes of paths and, file by file, the first bytes that keep says.
func (d *Disk) Crash(paths int, keep []int) {
	d.settle(within(paths, len(d.changes)))
	d.files = maps.Clone(d.lasting)
	for i, path := range d.List() {
		more := 0
		if i < len(keep) {
			more = keep[i]
		}
		f := d.files[path]
		f.cut(f.synced + within(more, len(f.bytes)-f.synced))
		f.sync()
	}
	d.left = never
}

func within(n int, most int) int { return min(max(n, 0), most) }

// Copy makes another disk of the files that are there now, as if all of it were synced.
func (d *Disk) Copy() *Disk {
	other := New(d.room)
	for path, f := range d.files {
		other.files[path] = &file{slices.Clone(f.bytes), len(f.bytes)}
	}
	other.lasting = maps.Clone(other.files)
	return other
}
