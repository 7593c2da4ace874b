package blobs_test

import (
	"math"
	"math/rand/v2"
	"slices"
	"strings"
	"testing"

	"blobs/api"
	"blobs/blobs"
)

// scene is a call on a disk, and what a store has ahead of it and behind it.
type scene struct {
	build         func(t *testing.T) (*blobs.Disk, func())
	before, after *shelf
}

// begun makes a store, each time the same.
type begun func(t *testing.T) (*blobs.Disk, *blobs.Store, *shelf)

// small is what smallStore makes.
func small(left int) begun {
	return func(t *testing.T) (*blobs.Disk, *blobs.Store, *shelf) {
		t.Helper()
		return smallStore(t, left)
	}
}

// holding is a full disk with these contents, and tags of the first ones, as many as are said.
func holding(tags int, contents ...string) begun {
	return func(t *testing.T) (*blobs.Disk, *blobs.Store, *shelf) {
		t.Helper()
		named := map[string]string{}
		for i := range tags {
			named["t"+string(rune('0'+i))] = contents[i]
		}
		m := shelfWith(contents, named)
		big := blobs.NewDisk(plenty)
		s := open(t, big)
		put(t, s, contents...)
		for name, b := range named {
			wantErrno(t, "P12: Tag", s.Tag(name, hashOf(b)), api.OK)
		}
		d := diskWith(t, m.used(), filesOf(t, big)...)
		return d, open(t, d), m
	}
}

// sceneOf is a call of a store.
func sceneOf(t *testing.T, begin begun, call func(s *blobs.Store), model func(m *shelf)) scene {
	t.Helper()
	_, _, before := begin(t)
	after := before.copy()
	model(after)
	build := func(t *testing.T) (*blobs.Disk, func()) {
		d, s, _ := begin(t)
		return d, func() { call(s) }
	}
	return scene{build, before, after}
}

// sceneOfOpen is an Open of a disk; each time of a copy.
func sceneOfOpen(d *blobs.Disk, before, after *shelf) scene {
	build := func(t *testing.T) (*blobs.Disk, func()) {
		other, e := d.Copy()
		wantErrno(t, "P8: Copy", e, api.OK)
		return other, func() { blobs.Open(other) }
	}
	return scene{build, before, after}
}

func scenes(t *testing.T) map[string]scene {
	t.Helper()
	same := func(m *shelf) {}
	prune := func(s *blobs.Store) { s.Prune() }
	pruned := func(m *shelf) { m.prune() }
	many := make([]string, 10)
	for i := range many {
		many[i] = strings.Repeat("m", i)
	}
	all := map[string]scene{
		"Open":               sceneOfOpen(blobs.NewDisk(plenty), newShelf(), newShelf()),
		"Open, in its room":  sceneOfOpen(blobs.NewDisk(emptyStore), newShelf(), newShelf()),
		"Put of the whole":   sceneOf(t, small(0), func(s *blobs.Store) { s.Put("a") }, same),
		"Put of nothing":     sceneOf(t, holding(1, "a"), func(s *blobs.Store) { s.Put("") }, func(m *shelf) { m.put("", plenty) }),
		"Tag of the same":    sceneOf(t, small(0), func(s *blobs.Store) { s.Tag("x", hashOf("a")) }, same),
		"Publish of same":    sceneOf(t, small(0), func(s *blobs.Store) { s.Publish("x", "a") }, same),
		"Delete":             sceneOf(t, small(0), func(s *blobs.Store) { s.Delete(hashOf("")) }, func(m *shelf) { m.delete(hashOf("")) }),
		"Delete of spoilt":   sceneOf(t, small(0), func(s *blobs.Store) { s.Delete(hashOf("spoilt")) }, func(m *shelf) { m.delete(hashOf("spoilt")) }),
		"Delete of a tagged": sceneOf(t, small(0), func(s *blobs.Store) { s.Delete(hashOf("a")) }, same),
		"Prune":              sceneOf(t, small(0), prune, pruned),
		"Prune of none":      sceneOf(t, holding(2, "a", "b"), prune, same),
		"Prune of one":       sceneOf(t, holding(2, "a", "b", "c"), prune, pruned),
		"Prune of two":       sceneOf(t, holding(1, "a", "b", "c"), prune, pruned),
		"Prune of all":       sceneOf(t, holding(0, many...), prune, pruned),
		"Blobs":              sceneOf(t, small(0), func(s *blobs.Store) { s.Blobs() }, same),
	}
	for name, w := range writes() {
		call := func(s *blobs.Store) { w.call(s) }
		all[name] = sceneOf(t, small(w.lays), call, func(m *shelf) { w.model(m) })
		all[name+", refused"] = sceneOf(t, small(w.lays-1), call, same)
	}
	return all
}

// keeps are lists of what survives of so many files' bytes: nothing, some of each, all, and all of one file alone.
func keeps(files int) [][]int {
	all := [][]int{nil}
	for _, n := range []int{1, len(emptyIndex) - 1, math.MaxInt} {
		all = append(all, slices.Repeat([]int{n}, files))
	}
	for i := range files {
		keep := make([]int, files)
		keep[i] = math.MaxInt
		all = append(all, keep)
	}
	return all
}

// stepsOf is how many steps the call of a scene takes, and the most files that the disk may have in its midst.
func (c scene) stepsOf(t *testing.T) (steps int, files int) {
	t.Helper()
	d, call := c.build(t)
	before, _ := d.Steps()
	call()
	behind, _ := d.Steps()
	paths, _ := d.List()
	return behind - before, len(paths) + 3
}

// leftAt are the disks that are left, each with other files, if the disk breaks behind so many steps and crashes.
func (c scene) leftAt(t *testing.T, n int) map[string]*blobs.Disk {
	t.Helper()
	left := map[string]*blobs.Disk{}
	steps, files := c.stepsOf(t)
	for paths := range steps + 1 {
		for _, keep := range keeps(files) {
			d, call := c.build(t)
			wantOK(t, d.Break(n))
			call()
			wantOK(t, d.Crash(paths, keep))
			left[strings.Join(filesOf(t, d), "\x00")] = d
		}
	}
	return left
}

// openWithin is an Open that takes no more steps than it may.
func openWithin(t *testing.T, d *blobs.Disk, atRest bool) *blobs.Store {
	t.Helper()
	paths, _ := d.List()
	most := 12
	if !atRest {
		most += 4 * len(paths)
	}
	before, _ := d.Steps()
	s := open(t, d)
	if behind, _ := d.Steps(); behind-before > most {
		t.Errorf("P16: Open takes %d steps with %d files, want at most %d", behind-before, len(paths), most)
	}
	return s
}

// oneOf is the shelf whose files are on the disk; nil, if it is none of them.
func oneOf(t *testing.T, d *blobs.Disk, shelves []*shelf) *shelf {
	t.Helper()
	files := filesOf(t, d)
	for _, m := range shelves {
		if slices.Equal(files, m.files()) {
			return m
		}
	}
	return nil
}

// wantOneOf: a store that is opened on the disk has what one of the shelves has, and one that is opened again changes nothing. It answers which shelf that is.
func wantOneOf(t *testing.T, d *blobs.Disk, shelves []*shelf) *shelf {
	t.Helper()
	left := filesOf(t, d)
	s := openWithin(t, d, oneOf(t, d, shelves) != nil)
	m := oneOf(t, d, shelves)
	if m == nil {
		t.Errorf("P15: a crash leaves %q, and Open then %q", left, filesOf(t, d))
		return nil
	}
	wantShelf(t, s, m)
	s = openWithin(t, d, true)
	wantStore(t, d, s, m)
	return m
}

// wantEither: so it is on the disk and on a copy of it, and both have the same.
func wantEither(t *testing.T, d *blobs.Disk, shelves ...*shelf) {
	t.Helper()
	other, e := d.Copy()
	wantErrno(t, "P8: Copy", e, api.OK)
	if wantOneOf(t, other, shelves) != wantOneOf(t, d, shelves) {
		t.Errorf("P15: a disk has %q, and its copy %q", filesOf(t, d), filesOf(t, other))
	}
}

// wantSafe: wherever the disk breaks in the call, and in the Open behind it, and again, a store has what it had or what it is to have.
func (c scene) wantSafe(t *testing.T) {
	t.Helper()
	seen := map[string]struct{}{}
	var work []*blobs.Disk
	find := func(c scene) int {
		steps, _ := c.stepsOf(t)
		for n := range steps {
			for files, d := range c.leftAt(t, n) {
				if _, ok := seen[files]; !ok {
					seen[files] = struct{}{}
					work = append(work, d)
				}
			}
		}
		return steps
	}
	steps := find(c)
	for ; len(work) > 0; work = work[1:] {
		find(sceneOfOpen(work[0], c.before, c.after))
		wantEither(t, work[0], c.before, c.after)
	}
	for _, d := range c.leftAt(t, steps) {
		wantEither(t, d, c.after)
	}
}

func TestABreakAtEveryStep(t *testing.T) {
	for name, c := range scenes(t) {
		t.Run(name, func(t *testing.T) {
			t.Parallel()
			c.wantSafe(t)
		})
	}
}

// A disk that broke in the midst of a call and works again, though it has not crashed, is as good as one that crashed and lost nothing.
func TestOpenOfADiskThatWorksAgain(t *testing.T) {
	for name, c := range scenes(t) {
		t.Run(name, func(t *testing.T) {
			steps, _ := c.stepsOf(t)
			for n := range steps + 1 {
				d, call := c.build(t)
				wantOK(t, d.Break(n))
				call()
				wantOK(t, d.Break(math.MaxInt))
				wantEither(t, d, c.before, c.after)
			}
		})
	}
}

// What is left of a first Open that broke makes room for the next one, and what that begins is a store like any other.
func TestAStoreBehindAFirstOpenThatBroke(t *testing.T) {
	first := sceneOfOpen(blobs.NewDisk(plenty), newShelf(), newShelf())
	steps, _ := first.stepsOf(t)
	for n := range steps + 1 {
		for _, d := range first.leftAt(t, n) {
			s := openWithin(t, d, false)
			wantShelf(t, s, newShelf())
			publish(t, s, "a", "b")
			wantStore(t, d, s, shelfWith([]string{"b"}, map[string]string{"a": "b"}))
		}
	}
}

func TestAFirstOpenThatBreaksInTooLittleRoom(t *testing.T) {
	for room := range emptyStore {
		for n := range 12 {
			for _, keep := range keeps(3) {
				d := blobs.NewDisk(room)
				wantOK(t, d.Break(n))
				blobs.Open(d)
				wantOK(t, d.Crash(n, keep))
				left := filesOf(t, d)
				if s, e := blobs.Open(d); s != nil || e != api.ErrSpace {
					t.Errorf("P9: Open with room for %d, behind a crash = %v, %d, want ErrSpace", room, s != nil, e)
				}
				wantFiles(t, d, left...)
			}
		}
	}
}

// One break in the midst of many calls: what was answered ahead of it is there, and nothing of what was called behind it.
func TestCallsAheadOfABreakAndBehindIt(t *testing.T) {
	names := []string{"a", "b", "c", "d", "e"}
	calls := func(s *blobs.Store) {
		for _, name := range names {
			s.Publish(name, name)
		}
	}
	shelves := []*shelf{newShelf()}
	ends := []int{0}
	d, s := newStore(t)
	begin, _ := d.Steps()
	for i, name := range names {
		m := shelves[i].copy()
		m.publish(name, name, plenty)
		publish(t, s, name, name)
		steps, _ := d.Steps()
		shelves, ends = append(shelves, m), append(ends, steps-begin)
	}
	for n := range ends[len(names)] + 1 {
		answered := 0
		for answered < len(names) && ends[answered+1] <= n {
			answered++
		}
		for paths := range 8 {
			d, s := newStore(t)
			wantOK(t, d.Break(n))
			calls(s)
			wantOK(t, d.Crash(paths, []int{9, 9, 9, 9, 9, 9, 9, 9, 9, 9}))
			wantEither(t, d, shelves[answered:min(answered+2, len(shelves))]...)
		}
	}
}

// A store lives through many calls, breaks and crashes, in little room; what survives of each is up to chance.
func TestBreaksAgainAndAgain(t *testing.T) {
	for seed := range uint64(150) {
		r := chance{rand.New(rand.NewPCG(seed, 11))}
		room := emptyStore + r.IntN(2000)
		d := blobs.NewDisk(room)
		s, m := open(t, d), newShelf()
		for i := range 80 {
			before := m.copy()
			wantOK(t, d.Break(r.IntN(14)))
			call, _, _ := storeAndShelf(t, s, m, room, r)
			for range r.IntN(4) {
				wantOK(t, d.Crash(r.IntN(9), r.list()), d.Break(r.IntN(6)))
				blobs.Open(d)
			}
			wantOK(t, d.Crash(r.IntN(9), r.list()))
			s = openWithin(t, d, false)
			if slices.Equal(filesOf(t, d), before.files()) {
				m = before
			}
			wantShelf(t, s, m)
			wantRest(t, d, m)
			if t.Failed() {
				t.Fatalf("P15: seed %d: call %d, %s", seed, i, call)
			}
		}
	}
}
