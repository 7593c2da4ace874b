package blobs_test

import (
	"math"
	"math/rand/v2"
	"slices"
	"strings"
	"testing"

	"blobs/api"
	"blobs/blobs"
)

// scene is a call on a disk, and what a store has ahead of it and behind it.
type scene struct {
	build         func(t *testing.T) (*blobs.Disk, func())
	before, after *shelf
}

// sceneOf is a call of a store that smallStore makes.
func sceneOf(t *testing.T, left int, call func(s *blobs.Store), model func(m *shelf)) scene {
	t.Helper()
	_, _, before := smallStore(t, left)
	after := before.copy()
	model(after)
	build := func(t *testing.T) (*blobs.Disk, func()) {
		d, s, _ := smallStore(t, left)
		return d, func() { call(s) }
	}
	return scene{build, before, after}
}

// sceneOfOpen is an Open of a disk; each time of a copy.
func sceneOfOpen(d *blobs.Disk, before, after *shelf) scene {
	build := func(t *testing.T) (*blobs.Disk, func()) {
		other, e := d.Copy()
		wantErrno(t, "P8: Copy", e, api.OK)
		return other, func() { blobs.Open(other) }
	}
	return scene{build, before, after}
}

func scenes(t *testing.T) map[string]scene {
	t.Helper()
	same := func(m *shelf) {}
	all := map[string]scene{
		"Open":               sceneOfOpen(blobs.NewDisk(plenty), newShelf(), newShelf()),
		"Open, in its room":  sceneOfOpen(blobs.NewDisk(emptyStore), newShelf(), newShelf()),
		"Delete":             sceneOf(t, 0, func(s *blobs.Store) { s.Delete(hashOf("")) }, func(m *shelf) { m.delete(hashOf("")) }),
		"Delete of a tagged": sceneOf(t, 0, func(s *blobs.Store) { s.Delete(hashOf("a")) }, same),
		"Prune":              sceneOf(t, 0, func(s *blobs.Store) { s.Prune() }, func(m *shelf) { m.prune() }),
		"Blobs":              sceneOf(t, 0, func(s *blobs.Store) { s.Blobs() }, same),
	}
	for name, w := range writes() {
		call := func(s *blobs.Store) { w.call(s) }
		all[name] = sceneOf(t, w.lays, call, func(m *shelf) { w.model(m) })
		all[name+", refused"] = sceneOf(t, w.lays-1, call, same)
	}
	return all
}

// keeps are lists of what survives of so many files' bytes: nothing, a byte of each, all, and all of one file alone.
func keeps(files int) [][]int {
	all := [][]int{nil, slices.Repeat([]int{1}, files), slices.Repeat([]int{math.MaxInt}, files)}
	for i := range files {
		keep := make([]int, files)
		keep[i] = math.MaxInt
		all = append(all, keep)
	}
	return all
}

// stepsOf is how many steps the call of a scene takes, and the most files that the disk may have in its midst.
func (c scene) stepsOf(t *testing.T) (steps int, files int) {
	t.Helper()
	d, call := c.build(t)
	before, _ := d.Steps()
	call()
	behind, _ := d.Steps()
	paths, _ := d.List()
	return behind - before, len(paths) + 3
}

// leftAt are the disks that are left, each with other files, if the disk breaks behind so many steps and crashes.
func (c scene) leftAt(t *testing.T, n int) map[string]*blobs.Disk {
	t.Helper()
	left := map[string]*blobs.Disk{}
	steps, files := c.stepsOf(t)
	for paths := range steps + 1 {
		for _, keep := range keeps(files) {
			d, call := c.build(t)
			wantOK(t, d.Break(n))
			call()
			wantOK(t, d.Crash(paths, keep))
			left[strings.Join(filesOf(t, d), "\x00")] = d
		}
	}
	return left
}

// opened is a store on a copy of a disk; its Open takes no more steps than it may.
func opened(t *testing.T, d *blobs.Disk, atRest bool) (*blobs.Disk, *blobs.Store) {
	t.Helper()
	other, e := d.Copy()
	wantErrno(t, "P8: Copy", e, api.OK)
	paths, _ := other.List()
	most := 12
	if !atRest {
		most += 4 * len(paths)
	}
	s := open(t, other)
	if steps, _ := other.Steps(); steps > most {
		t.Errorf("P16: Open takes %d steps with %d files, want at most %d", steps, len(paths), most)
	}
	return other, s
}

// wantEither: a store that is opened on the disk has what one of the shelves has.
func wantEither(t *testing.T, d *blobs.Disk, shelves ...*shelf) {
	t.Helper()
	atRest := slices.ContainsFunc(shelves, func(m *shelf) bool { return slices.Equal(filesOf(t, d), m.files()) })
	other, s := opened(t, d, atRest)
	for _, m := range shelves {
		if slices.Equal(filesOf(t, other), m.files()) {
			wantStore(t, other, s, m)
			return
		}
	}
	t.Errorf("P15: a crash leaves %q, and Open then %q", filesOf(t, d), filesOf(t, other))
}

// wantSafe: wherever the disk breaks in the call, and in the Open behind it, and again, a store has what it had or what it is to have.
func (c scene) wantSafe(t *testing.T) {
	t.Helper()
	seen := map[string]struct{}{}
	var work []*blobs.Disk
	find := func(c scene) int {
		steps, _ := c.stepsOf(t)
		for n := range steps {
			for files, d := range c.leftAt(t, n) {
				if _, ok := seen[files]; !ok {
					seen[files] = struct{}{}
					work = append(work, d)
				}
			}
		}
		return steps
	}
	steps := find(c)
	for ; len(work) > 0; work = work[1:] {
		wantEither(t, work[0], c.before, c.after)
		find(sceneOfOpen(work[0], c.before, c.after))
	}
	for _, d := range c.leftAt(t, steps) {
		wantEither(t, d, c.after)
	}
}

func TestABreakAtEveryStep(t *testing.T) {
	for name, c := range scenes(t) {
		t.Run(name, func(t *testing.T) {
			t.Parallel()
			c.wantSafe(t)
		})
	}
}

// A disk that broke in the midst of a call and works again, though it has not crashed, is as good as one that crashed and lost nothing.
func TestOpenOfADiskThatWorksAgain(t *testing.T) {
	for name, c := range scenes(t) {
		t.Run(name, func(t *testing.T) {
			steps, _ := c.stepsOf(t)
			for n := range steps + 1 {
				d, call := c.build(t)
				wantOK(t, d.Break(n))
				call()
				wantOK(t, d.Break(math.MaxInt))
				s, m := open(t, d), c.after
				if slices.Equal(filesOf(t, d), c.before.files()) {
					m = c.before
				}
				wantStore(t, d, s, m)
			}
		})
	}
}

// A store lives through many calls, breaks and crashes, in little room; what survives of each is up to chance.
func TestBreaksAgainAndAgain(t *testing.T) {
	for seed := range uint64(150) {
		r := chance{rand.New(rand.NewPCG(seed, 11))}
		room := emptyStore + r.IntN(2000)
		d := blobs.NewDisk(room)
		s, m := open(t, d), newShelf()
		for i := range 80 {
			before := m.copy()
			wantOK(t, d.Break(r.IntN(14)))
			call, _, _ := storeAndShelf(t, s, m, room, r)
			for range r.IntN(4) {
				wantOK(t, d.Crash(r.IntN(9), r.list()), d.Break(r.IntN(6)))
				blobs.Open(d)
			}
			wantOK(t, d.Crash(r.IntN(9), r.list()))
			s = open(t, d)
			if slices.Equal(filesOf(t, d), before.files()) {
				m = before
			}
			wantShelf(t, s, m)
			wantRest(t, d, m)
			if t.Failed() {
				t.Fatalf("P15: seed %d: call %d, %s", seed, i, call)
			}
		}
	}
}
