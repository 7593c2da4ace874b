// Package index: the tags of a store, checked, printed and read.
package index

import (
	"strconv"
	"strings"

	"blobs/api"
	"blobs/digest"
)

// Entry is a tag that was checked: its digest is one.
type Entry struct {
	Name   string
	Digest digest.Digest
	Size   int
}

// Check gives the entries of a list of tags; false, if the list is no index.
func Check(tags []api.Tag) ([]Entry, bool) {
	if len(tags) > api.MaxTags {
		return nil, false
	}
	var entries []Entry
	last := "" // below every tag
	for _, t := range tags {
		d, ok := digest.Read(t.Digest)
		if !ok || !IsTag(t.Name) || t.Name <= last || !isSize(t.Size) {
			return nil, false
		}
		entries = append(entries, Entry{t.Name, d, t.Size})
		last = t.Name
	}
	return entries, true
}

// Tags is the list of tags of which Check gives these entries.
func Tags(entries []Entry) []api.Tag {
	var tags []api.Tag
	for _, e := range entries {
		tags = append(tags, api.Tag{Name: e.Name, Digest: e.Digest.Text(), Size: e.Size})
	}
	return tags
}

// Print is the text of the entries.
func Print(entries []Entry) string {
	var text strings.Builder
	text.WriteString(`{"version":1,"tags":[`)
	for i, e := range entries {
		if i > 0 {
			text.WriteString(`,`)
		}
		text.WriteString(`{"tag":"` + e.Name + `","digest":"` + e.Digest.Text() + `","size":` + strconv.Itoa(e.Size) + `}`)
	}
	text.WriteString(`]}`)
	return text.String()
}

// IsTag says whether a name is a tag.
func IsTag(name string) bool {
	if len(name) < 1 || len(name) > api.MaxTag || !isSmallOrDigit(name[0]) {
		return false
	}
	for i := range len(name) {
		if !isSmallOrDigit(name[i]) && strings.IndexByte("._-", name[i]) < 0 {
			return false
		}
	}
	return true
}

func isSmallOrDigit(b byte) bool {
	return 'a' <= b && b <= 'z' || isDigit(b)
}

func isDigit(b byte) bool {
	return '0' <= b && b <= '9'
}

func isSize(n int) bool {
	return 0 <= n && n <= api.MaxBlob
}
