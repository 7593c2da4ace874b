package store

import (
	"strconv"
	"strings"

	"blobs/digest"
)

const (
	layoutPath  = "layout"
	indexPath   = "index"
	journalPath = "journal"
	pruningPath = "pruning" // of the journal, as long as contents are pruned
	contentsDir = "blobs/"
	besideDir   = "beside/"
)

const layoutText = `{"version":1}`

func contentPath(d digest.Digest) string { return contentsDir + d.Text() }

// digestAt is the digest of the content under a path; false, if the path is none of a content.
func digestAt(path string) (digest.Digest, bool) {
	text, ok := strings.CutPrefix(path, contentsDir)
	if !ok {
		return digest.Digest{}, false
	}
	return digest.Read(text)
}

// besidePath is where file number i of a change is laid, until all files of that change are.
func besidePath(i int) string { return besideDir + strconv.Itoa(i) }

// file is a path of the store and the bytes that are to be under it.
type file struct{ path, bytes string }

// write lets the files be there, all or none. They are laid beside the store; when the first one goes to its path, the change is made, and the others follow: if not now, then when the store is opened anew. An Open can tell, as of the changes of paths the first ones survive a crash: a file lies beside the store without the one ahead of it only if that one has gone to its path.
func (s *Store) write(files []file) (err error) {
	if len(files) == 0 {
		return nil
	}
	laid := 0
	defer func() {
		if err != nil {
			s.takeBack(laid)
		}
	}()
	for _, f := range files {
		if err := s.disk.Append(besidePath(laid), f.bytes); err != nil {
			return err
		}
		laid++
	}
	return s.bringIn(files)
}

// bringIn lets the files that are laid go to their paths.
func (s *Store) bringIn(files []file) error {
	for i := range files {
		if err := s.disk.Sync(besidePath(i)); err != nil {
			return err
		}
	}
	for i, f := range files {
		if err := s.disk.Rename(besidePath(i), f.path); err != nil {
			return err
		}
	}
	return s.disk.SyncDir()
}

// takeBack removes the files that are laid, the last one first, so that none lies there without the one ahead of it. What is refused here is not told: the call tells what stopped it, and the next Open removes what is left.
func (s *Store) takeBack(laid int) {
	if laid == 0 {
		return
	}
	for i := laid - 1; i >= 0; i-- {
		_ = s.disk.Remove(besidePath(i))
	}
	_ = s.disk.SyncDir()
}
