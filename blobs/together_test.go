package blobs_test

import (
	"strings"
	"sync"
	"testing"

	"blobs/api"
	"blobs/blobs"
)

// together lets so many goroutines work, and waits for all of them.
func together(count int, work func(i int)) {
	var all sync.WaitGroup
	for i := range count {
		all.Go(func() { work(i) })
	}
	all.Wait()
}

// Each goroutine has a tag of its own, and contents that others keep too.
func TestSeveralGoroutinesOnOneStore(t *testing.T) {
	d, s := newStore(t)
	together(api.MaxTags, func(i int) {
		name := "t" + string(rune('0'+i))
		for k := range 40 {
			b := strings.Repeat("b", (k+i)%20)
			publish(t, s, name, b)
			if got, e := s.Get(hashOf(b)); got != b || e != api.OK {
				t.Errorf("P11: Get of what a tag names = %q, %d, want %q", got, e, b)
			}
			if e := s.Delete(hashOf(b)); e != api.ErrTagged {
				t.Errorf("P14: Delete of what a tag names = %d", e)
			}
			put(t, s, name)
			s.Tags()
			s.Blobs()
			if _, e := s.Prune(); e != api.OK {
				t.Errorf("P14: Prune = %d", e)
			}
		}
	})
	m := newShelf()
	for i := range api.MaxTags {
		b, name := strings.Repeat("b", (39+i)%20), "t"+string(rune('0'+i))
		m.contents[hashOf(b)] = b
		m.tags[name] = api.Tag{Name: name, Digest: hashOf(b), Size: len(b)}
	}
	_, e := s.Prune()
	wantErrno(t, "P14: Prune", e, api.OK)
	wantStore(t, d, s, m)
}

// What many do at once comes to the same as what they do one behind the other: each content is deleted by one of them.
func TestEachContentIsDeletedOnce(t *testing.T) {
	d, s := newStore(t)
	var all []string
	for i := range 100 {
		all = append(all, strings.Repeat("c", i))
	}
	put(t, s, all...)
	var deleted [8]int
	together(len(deleted), func(i int) {
		for _, b := range all {
			switch e := s.Delete(hashOf(b)); e {
			case api.OK:
				deleted[i]++
			case api.ErrNone:
			default:
				t.Errorf("P14: Delete = %d", e)
			}
		}
	})
	sum := 0
	for _, n := range deleted {
		sum += n
	}
	if sum != len(all) {
		t.Errorf("P14: %d contents were deleted, want %d", sum, len(all))
	}
	wantStore(t, d, s, newShelf())
}

func TestGoroutinesOnStoresSideBySide(t *testing.T) {
	var disks [8]*blobs.Disk
	for i := range disks {
		disks[i] = blobs.NewDisk(plenty)
	}
	together(len(disks), func(i int) {
		s, e := blobs.Open(disks[i])
		if e != api.OK {
			t.Errorf("P9: Open = %d", e)
			return
		}
		for k := range 50 {
			publish(t, s, "t", strings.Repeat("x", (k*i)%50))
		}
		publish(t, s, "t", "last")
		wantPruned(t, s, pruned(i))
	})
	for _, d := range disks {
		wantStore(t, d, open(t, d), shelfWith([]string{"last"}, map[string]string{"t": "last"}))
	}
}

// pruned is how many lengths the contents of a goroutine had.
func pruned(i int) int {
	lengths := map[int]struct{}{}
	for k := range 50 {
		lengths[(k*i)%50] = struct{}{}
	}
	return len(lengths)
}
