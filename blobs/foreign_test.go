package blobs_test

import (
	"math/rand/v2"
	"testing"

	"blobs/api"
	"blobs/blobs"
)

// meddle does to a disk what no store does.
func meddle(d *blobs.Disk, r chance) {
	paths, _ := d.List()
	paths = append(paths, "index", "journal", "layout", "pruning", "beside/0", "beside/1", "blobs/"+r.digest(), "blobs/", "x")
	path, to := paths[r.IntN(len(paths))], paths[r.IntN(len(paths))]
	switch r.IntN(9) {
	case 0:
		d.Append(path, []string{"", "x", emptyIndex, `{"version":1,"tags":[{`}[r.IntN(4)])
	case 1:
		d.Remove(path)
	case 2:
		d.Rename(path, to)
	case 3:
		d.Truncate(path, r.number())
	case 4:
		d.Spoil(path, r.IntN(40), 1+r.IntN(255))
	case 5:
		d.Break(r.IntN(10))
	case 6:
		d.Crash(r.number(), r.list())
	case 7:
		d.SyncDir()
	}
}

// Of a store whose disk another has written to nothing is asked but that its calls end and don't panic.
func TestCallsOfAStoreWhoseDiskAnotherHasWrittenTo(t *testing.T) {
	for seed := range uint64(400) {
		r := chance{rand.New(rand.NewPCG(seed, 13))}
		d := blobs.NewDisk(300 + r.IntN(1000))
		s := open(t, d)
		for range 60 {
			storeCalls(t, s, r.name(), r.digest(), r.content())
			publishSome(s, r)
			meddle(d, r)
			if other, e := blobs.Open(d); e == api.OK && r.IntN(4) == 0 {
				s = other
			} else if (other != nil) != (e == api.OK) {
				t.Fatalf("P1: Open = %v, %d", other != nil, e)
			}
		}
	}
}

func publishSome(s *blobs.Store, r chance) {
	for range r.IntN(4) {
		s.Publish(r.name(), r.content())
		s.Put(r.content())
	}
}

// Two stores on one disk: each writes to the other's.
func TestTwoStoresOnOneDisk(t *testing.T) {
	d, s := newStore(t)
	publish(t, s, "a", "1")
	other := open(t, d)
	put(t, other, "2")
	wantOK(t, other.Untag("a"))
	wantPruned(t, other, 2)
	for range 2 {
		storeCalls(t, s, "a", hashOf("1"), "1")
		storeCalls(t, other, "a", hashOf("1"), "2")
	}
}

func TestOpenOfADiskWhoseIndexIsWrong(t *testing.T) {
	d, s := newStore(t)
	publish(t, s, "a", "1")
	wantOK(t, d.Spoil("index", 3, 1))
	files, steps := filesOf(t, d), 0
	steps, _ = d.Steps()
	if s, e := blobs.Open(d); s != nil || e != api.ErrText {
		t.Errorf("P1: Open of a disk whose index is wrong = %v, %d, want ErrText", s != nil, e)
	}
	wantFiles(t, d, files...)
	wantSteps(t, d, steps)
}
