package disk

import "strings"

// file has bytes, of which the first ones are synced. It keeps them when its path changes, so it is known by its address.
type file struct {
	bytes  []byte
	synced int
}

// cut leaves a file its first n bytes.
func (f *file) cut(n int) {
	f.bytes = f.bytes[:n]
	f.synced = min(f.synced, n)
}

func (f *file) sync() { f.synced = len(f.bytes) }

// change is a change of paths: a file goes from a path to another. A new file comes from no path, and one that is gone goes to none.
type change struct {
	from, to string
	file     *file
}

func (c change) apply(files map[string]*file) {
	delete(files, c.from)
	if c.to != "" {
		files[c.to] = c.file
	}
}

// change changes the paths that are there now.
func (d *Disk) change(c change) {
	c.to = strings.Clone(c.to) // the caller's string may be a piece of a far longer one, which is not to be kept
	c.apply(d.files)
	d.changes = append(d.changes, c)
}

// settle lets the first n changes outlast a crash, and forgets the others.
func (d *Disk) settle(n int) {
	for _, c := range d.changes[:n] {
		c.apply(d.lasting)
	}
	d.changes = nil
}
