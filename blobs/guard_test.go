package blobs

import (
	"testing"
	"time"

	"blobs/api"
)

// guardedCalls has every call of a store.
func guardedCalls(s *Store) map[string]func() {
	digest := Hash("a")
	return map[string]func(){
		"Put":     func() { s.Put("a") },
		"Get":     func() { s.Get(digest) },
		"Tag":     func() { s.Tag("t", digest) },
		"Untag":   func() { s.Untag("t") },
		"Publish": func() { s.Publish("t", "a") },
		"Delete":  func() { s.Delete(digest) },
		"Prune":   func() { s.Prune() },
		"Blobs":   func() { s.Blobs() },
		"Tags":    func() { s.Tags() },
		"refused": func() {
			s.Put(string(make([]byte, api.MaxBlob+1)))
			s.Get("")
			s.Tag("", "")
			s.Untag("")
			s.Publish("", "")
			s.Delete("")
		},
	}
}

// A call that does not wait for the guard would end long before this.
const longEnough = 30 * time.Millisecond

func TestEachCallWaitsForTheGuardAndGivesItBack(t *testing.T) {
	s, e := Open(NewDisk(1000))
	if e != api.OK {
		t.Fatalf("P9: Open = %d", e)
	}
	for name, call := range guardedCalls(s) {
		s.guard.Lock()
		ended := make(chan struct{})
		go func() {
			defer close(ended)
			call()
		}()
		select {
		case <-ended:
			t.Errorf("Ways: %s does not wait for the mutex", name)
		case <-time.After(longEnough):
		}
		s.guard.Unlock()
		<-ended
		if !s.guard.TryLock() {
			t.Fatalf("Ways: %s does not give the mutex back", name)
		}
		s.guard.Unlock()
	}
}
