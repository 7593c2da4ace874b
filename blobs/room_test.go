package blobs_test

import (
	"math"
	"strings"
	"testing"

	"blobs/api"
	"blobs/blobs"
)

// write is a call that writes bytes, what it does to a shelf, and how many bytes it lays beside what smallStore has.
type write struct {
	call  func(s *blobs.Store) api.Errno
	model func(m *shelf) api.Errno
	lays  int
}

func writePut(b string, lays int) write {
	return write{
		func(s *blobs.Store) api.Errno { return ifAnswered(s.Put(b)) },
		func(m *shelf) api.Errno { return m.put(b, plenty) },
		lays,
	}
}

func writeTag(name string, b string, lays int) write {
	return write{
		func(s *blobs.Store) api.Errno { return s.Tag(name, hashOf(b)) },
		func(m *shelf) api.Errno { return m.tag(name, hashOf(b), plenty) },
		lays,
	}
}

func writeUntag(name string, lays int) write {
	return write{
		func(s *blobs.Store) api.Errno { return s.Untag(name) },
		func(m *shelf) api.Errno { return m.untag(name, plenty) },
		lays,
	}
}

func writePublish(name string, b string, lays int) write {
	return write{
		func(s *blobs.Store) api.Errno { return ifAnswered(s.Publish(name, b)) },
		func(m *shelf) api.Errno { return m.publish(name, b, plenty) },
		lays,
	}
}

func writes() map[string]write {
	index := func(tags map[string]string) int { return len(indexText(shelfWith(nil, tags).index())) }
	return map[string]write{
		"Put":                       writePut("new", 3),
		"Put of the most":           writePut(strings.Repeat("x", api.MaxBlob), api.MaxBlob),
		"Put of what is spoilt":     writePut("spoilt", 6),
		"Tag":                       writeTag("y", "a", index(map[string]string{"x": "a", "y": "a"})),
		"Tag of another":            writeTag("x", "", index(map[string]string{"x": ""})),
		"Untag":                     writeUntag("x", index(nil)),
		"Publish":                   writePublish("y", "new", 3+index(map[string]string{"x": "a", "y": "new"})),
		"Publish of what is there":  writePublish("x", "", index(map[string]string{"x": ""})),
		"Publish of what is tagged": writePublish("y", "a", index(map[string]string{"x": "a", "y": "a"})),
		"Publish of what is spoilt": writePublish("x", "spoilt", 6+index(map[string]string{"x": "spoilt"})),
	}
}

// ifAnswered is the errno, if the answer is there just where it is OK.
func ifAnswered(answer string, e api.Errno) api.Errno {
	if (answer != "") != (e == api.OK) {
		return -1
	}
	return e
}

// smallStore has the contents a, nothing and a spoilt one, a tag x of a, and other contents that leave room for so many bytes.
func smallStore(t *testing.T, left int) (*blobs.Disk, *blobs.Store, *shelf) {
	t.Helper()
	const room = 800
	d := blobs.NewDisk(room)
	s := open(t, d)
	put(t, s, "", "a", "spoilt")
	wantErrno(t, "P12: Tag", s.Tag("x", hashOf("a")), api.OK)
	m := shelfWith([]string{"a", "", "spoilt"}, map[string]string{"x": "a"})
	spoil(t, d, m, "spoilt", 3, 7)
	for i := byte('A'); ; i++ {
		used, _ := d.Used()
		if used == room-left {
			return d, s, m
		}
		filler := strings.Repeat(string(i), min(room-left-used, api.MaxBlob))
		put(t, s, filler)
		m.contents[hashOf(filler)] = filler
		if t.Failed() {
			t.FailNow() // a store that does not keep what it is given would be filled for ever
		}
	}
}

func TestRoomForWhatACallWrites(t *testing.T) {
	for name, c := range writes() {
		t.Run(name, func(t *testing.T) {
			for _, left := range []int{c.lays, c.lays + 1} {
				d, s, m := smallStore(t, left)
				wantErrno(t, "P10: "+name+" with room for what it writes", c.call(s), c.model(m))
				wantStore(t, d, s, m)
			}
		})
	}
}

// A call that is refused for want of room leaves all as it was: the store, its files, and what a crash would leave of them.
func TestTooLittleRoom(t *testing.T) {
	for name, c := range writes() {
		t.Run(name, func(t *testing.T) {
			for _, left := range []int{0, 1, 2, 5, 22, c.lays / 2, c.lays - 7, c.lays - 3, c.lays - 1} {
				if left < 0 || left >= c.lays {
					continue
				}
				d, s, m := smallStore(t, left)
				wantErrno(t, "P10: "+name+" with too little room", c.call(s), api.ErrSpace)
				wantErrno(t, "P10: "+name+" with too little room, again", c.call(s), api.ErrSpace)
				wantStore(t, d, s, m)
				for paths := range 6 {
					d, s, m := smallStore(t, left)
					wantErrno(t, "P10: "+name+" with too little room", c.call(s), api.ErrSpace)
					wantOK(t, d.Crash(paths, []int{math.MaxInt, math.MaxInt, math.MaxInt}))
					wantFiles(t, d, m.files()...)
				}
			}
		})
	}
}

func TestWhatChangesNothingTakesNoSteps(t *testing.T) {
	d, s, m := smallStore(t, 0)
	s.Prune()
	m.prune()
	before, _ := d.Steps()
	publish(t, s, "x", "a")
	put(t, s, "a")
	wantOK(t, s.Tag("x", hashOf("a")))
	wantPruned(t, s, 0)
	wantSteps(t, d, before)
	wantStore(t, d, s, m)
}

// A store whose disk is full can be made smaller.
func TestAFullDisk(t *testing.T) {
	d, s, m := smallStore(t, 0)
	wantErrno(t, "P14: Delete", s.Delete(hashOf("spoilt")), api.OK)
	delete(m.contents, hashOf("spoilt"))
	s = wantStore(t, d, s, m)
	put(t, s, "sixsix")
	m.contents[hashOf("sixsix")] = "sixsix"
	s = wantStore(t, d, s, m)
	wantRefused(t, "P10: Put to a full disk", api.ErrSpace)(s.Put("b"))
	wantPruned(t, s, len(m.contents)-1)
	wantStore(t, d, s, shelfWith([]string{"a"}, map[string]string{"x": "a"}))
}

func TestNothingOnAFullDisk(t *testing.T) {
	d := blobs.NewDisk(emptyStore)
	s := open(t, d)
	put(t, s, "")
	wantRefused(t, "P10: Put to a full disk", api.ErrSpace)(s.Put("b"))
	wantRefused(t, "P13: Publish to a full disk", api.ErrSpace)(s.Publish("a", ""))
	s = wantStore(t, d, s, shelfWith([]string{""}, nil))
	wantPruned(t, s, 1)
	wantStore(t, d, s, newShelf())
}
