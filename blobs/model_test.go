package blobs_test

import (
	"maps"
	"math"
	"math/rand/v2"
	"slices"
	"strings"
	"testing"

	"blobs/api"
	"blobs/blobs"
)

type modelFile struct {
	bytes  string
	synced int
}

// model is a disk in another shape than the program's: all paths, each with its file's number, as they were behind each change that is not synced.
type model struct {
	room  int
	files []modelFile
	times []map[string]int // the first ones outlast a crash, the last are there now
	steps int
	left  int // below 0: it is not to break
}

func newModel(room int) *model {
	return &model{room: max(room, 0), times: []map[string]int{{}}, left: -1}
}

func (m *model) now() map[string]int { return m.times[len(m.times)-1] }

func (m *model) change(change func(paths map[string]int)) {
	paths := maps.Clone(m.now())
	change(paths)
	m.times = append(m.times, paths)
}

func (m *model) used() int {
	n := 0
	for _, id := range m.now() {
		n += len(m.files[id].bytes)
	}
	return n
}

func modelPath(path string) bool { return len(path) >= 1 && len(path) <= 80 }

// file is the number of a path's file, or the errno that says why there is none.
func (m *model) file(path string) (int, api.Errno) {
	if !modelPath(path) {
		return 0, api.ErrPath
	}
	id, ok := m.now()[path]
	if !ok {
		return 0, api.ErrFile
	}
	return id, api.OK
}

// step answers e, if it is ErrPath or the disk is not broken, and does the work only if the step is taken.
func (m *model) step(e api.Errno, work func()) api.Errno {
	if e == api.ErrPath {
		return e
	}
	if m.left == 0 {
		return api.OK
	}
	if e == api.OK {
		work()
		m.steps++
		m.left--
	}
	return e
}

func (m *model) append(path string, b string) api.Errno {
	id, e := m.file(path)
	isNew := e == api.ErrFile
	if isNew {
		e = api.OK
	}
	if e == api.OK && m.used()+len(b) > m.room {
		e = api.ErrSpace
	}
	return m.step(e, func() {
		if isNew {
			id = len(m.files)
			m.files = append(m.files, modelFile{})
			m.change(func(paths map[string]int) { paths[path] = id })
		}
		m.files[id].bytes += b
	})
}

func (m *model) rename(from string, to string) api.Errno {
	id, e := m.file(from)
	if !modelPath(to) {
		e = api.ErrPath
	}
	return m.step(e, func() {
		if from != to {
			m.change(func(paths map[string]int) {
				delete(paths, from)
				paths[to] = id
			})
		}
	})
}

func (m *model) remove(path string) api.Errno {
	_, e := m.file(path)
	return m.step(e, func() {
		m.change(func(paths map[string]int) { delete(paths, path) })
	})
}

func (m *model) truncate(path string, n int) api.Errno {
	id, e := m.file(path)
	if e == api.OK && (n < 0 || n > len(m.files[id].bytes)) {
		e = api.ErrArg
	}
	return m.step(e, func() {
		f := &m.files[id]
		f.bytes = f.bytes[:n]
		f.synced = min(f.synced, n)
	})
}

func (m *model) sync(path string) api.Errno {
	id, e := m.file(path)
	return m.step(e, func() { m.files[id].synced = len(m.files[id].bytes) })
}

func (m *model) syncDir() api.Errno {
	return m.step(api.OK, func() { m.times = m.times[len(m.times)-1:] })
}

func (m *model) spoil(path string, at int, mask int) api.Errno {
	id, e := m.file(path)
	if e != api.OK {
		return e
	}
	b := []byte(m.files[id].bytes)
	if mask < 1 || mask > 255 || at < 0 || at >= len(b) {
		return api.ErrArg
	}
	b[at] ^= byte(mask)
	m.files[id].bytes = string(b)
	return api.OK
}

func (m *model) breakAfter(n int) api.Errno {
	if n < 0 {
		return api.ErrArg
	}
	m.left = n
	return api.OK
}

func (m *model) crash(paths int, keep []int) api.Errno {
	survived := m.times[max(0, min(paths, len(m.times)-1))]
	m.times = []map[string]int{survived}
	for i, path := range slices.Sorted(maps.Keys(survived)) {
		f := &m.files[survived[path]]
		for k := 0; i < len(keep) && k < keep[i] && f.synced < len(f.bytes); k++ {
			f.synced++
		}
		f.bytes = f.bytes[:f.synced]
	}
	m.left = -1
	return api.OK
}

func (m *model) copy() *model {
	other := newModel(m.room)
	for path, id := range m.now() {
		other.now()[path] = len(other.files)
		b := m.files[id].bytes
		other.files = append(other.files, modelFile{b, len(b)})
	}
	return other
}

func (m *model) all() []string {
	var files []string
	for _, path := range slices.Sorted(maps.Keys(m.now())) {
		files = append(files, path, m.files[m.now()[path]].bytes)
	}
	return files
}

// chance gives arguments, seldom wrong ones.
type chance struct{ *rand.Rand }

func (r chance) path() string {
	if r.IntN(30) == 0 {
		return []string{"", strings.Repeat("p", 81), strings.Repeat("p", 80)}[r.IntN(3)]
	}
	return []string{"a", "b", "c", "d", "\x00"}[r.IntN(5)]
}

func (r chance) number() int {
	if r.IntN(10) == 0 {
		return []int{-1, math.MinInt, math.MaxInt}[r.IntN(3)]
	}
	return r.IntN(6)
}

func (r chance) bytes() string { return "0123456789abcdef"[r.IntN(12):][:r.IntN(5)] }

func (r chance) list() []int {
	var l []int
	for range r.IntN(6) {
		l = append(l, r.number())
	}
	return l
}

// bothOf does one call to a disk and its model, and tells what it was and what they answered.
func bothOf(d *blobs.Disk, m *model, r chance) (string, api.Errno, api.Errno) {
	path, to, n, b := r.path(), r.path(), r.number(), r.bytes()
	switch k := r.IntN(40); {
	case k < 12:
		return "Append", d.Append(path, b), m.append(path, b)
	case k < 18:
		return "Rename", d.Rename(path, to), m.rename(path, to)
	case k < 22:
		return "Remove", d.Remove(path), m.remove(path)
	case k < 25:
		return "Truncate", d.Truncate(path, n), m.truncate(path, n)
	case k < 29:
		return "Sync", d.Sync(path), m.sync(path)
	case k < 32:
		return "SyncDir", d.SyncDir(), m.syncDir()
	case k < 34:
		mask := []int{-1, 0, 1, 128, 255, 256}[r.IntN(6)]
		return "Spoil", d.Spoil(path, n, mask), m.spoil(path, n, mask)
	case k < 36:
		return "Break", d.Break(n), m.breakAfter(n)
	default:
		keep := r.list()
		return "Crash", d.Crash(n, keep), m.crash(n, keep)
	}
}

func TestDisksAgainstAModel(t *testing.T) {
	for seed := range uint64(150) {
		r := chance{rand.New(rand.NewPCG(seed, 7))}
		room := r.IntN(30) - 2
		disks, models := []*blobs.Disk{blobs.NewDisk(room)}, []*model{newModel(room)}
		for i := range 300 {
			at := r.IntN(len(disks))
			call, e, want := bothOf(disks[at], models[at], r)
			wantErrno(t, "P7, P8: "+call, e, want)
			if i%100 == 99 {
				other, e := disks[at].Copy()
				wantErrno(t, "P8: Copy", e, api.OK)
				disks, models = append(disks, other), append(models, models[at].copy())
			}
			for k, d := range disks {
				wantFiles(t, d, models[k].all()...)
				wantSteps(t, d, models[k].steps)
			}
			if t.Failed() {
				t.Fatalf("seed %d: call %d, %s", seed, i, call)
			}
		}
	}
}
