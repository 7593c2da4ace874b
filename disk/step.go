package disk

import (
	"slices"

	"blobs/api"
)

// step takes a step that writes. A broken disk answers as if it had taken it, so that who writes can't tell.
func (d *Disk) step(name string, paths []string, write func() error) error {
	if slices.ContainsFunc(paths, isNoPath) {
		return &StepError{name, Refusal(api.ErrPath)}
	}
	if d.left == 0 {
		return nil
	}
	if err := write(); err != nil {
		return &StepError{name, err}
	}
	d.steps++
	if d.left != never {
		d.left--
	}
	return nil
}

// Append writes at the end of a file.
func (d *Disk) Append(path string, b string) error {
	return d.step("Append", []string{path}, func() error {
		if len(b) > d.room-d.Used() {
			return Refusal(api.ErrSpace)
		}
		f := d.files[path]
		if f == nil {
			f = &file{}
			d.change(change{to: path, file: f})
		}
		f.bytes = append(f.bytes, b...)
		return nil
	})
}

// Rename gives a file another path.
func (d *Disk) Rename(from string, to string) error {
	return d.step("Rename", []string{from, to}, func() error {
		f, err := d.find(from)
		if err == nil && from != to {
			d.change(change{from: from, to: to, file: f})
		}
		return err
	})
}

// Remove removes a file.
func (d *Disk) Remove(path string) error {
	return d.step("Remove", []string{path}, func() error {
		f, err := d.find(path)
		if err == nil {
			d.change(change{from: path, file: f})
		}
		return err
	})
}

// Truncate leaves a file its first n bytes.
func (d *Disk) Truncate(path string, n int) error {
	return d.step("Truncate", []string{path}, func() error {
		f, err := d.find(path)
		if err != nil {
			return err
		}
		if n < 0 || n > len(f.bytes) {
			return Refusal(api.ErrArg)
		}
		f.cut(n)
		return nil
	})
}

// Sync lets a file's bytes outlast a crash.
func (d *Disk) Sync(path string) error {
	return d.step("Sync", []string{path}, func() error {
		f, err := d.find(path)
		if err == nil {
			f.sync()
		}
		return err
	})
}

// SyncDir lets all paths outlast a crash.
func (d *Disk) SyncDir() error {
	return d.step("SyncDir", nil, func() error {
		d.settle(len(d.changes))
		return nil
	})
}
