package index

import (
	"slices"

	"blobs/api"
	"blobs/digest"
)

// Read gives the entries of an index's text. It panics with a Place where the text is wrong.
func Read(text string) []Entry {
	s := &scanner{text: text}
	var entries []Entry
	s.object(s.next(), []string{"version", "tags"}, func(name string) {
		switch name {
		case "version":
			s.version()
		case "tags":
			entries = s.entries()
		}
	})
	end := s.next()
	end.must(end.kind == kindEnd)
	return entries
}

// object reads an object that begins with the token first: each of the names once, in any order; value reads what stands behind a name.
func (s *scanner) object(first token, names []string, value func(name string)) {
	first.must(first.kind == '{')
	missing := slices.Clone(names)
	for len(missing) > 0 {
		if len(missing) < len(names) {
			s.mark(',')
		}
		name := s.next()
		i := slices.Index(missing, name.text)
		name.must(name.kind == kindString && i >= 0)
		missing = slices.Delete(missing, i, i+1)
		s.mark(':')
		value(name.text)
	}
	s.mark('}')
}

func (s *scanner) mark(kind byte) {
	t := s.next()
	t.must(t.kind == kind)
}

func (s *scanner) version() {
	t := s.next()
	t.must(t.kind == kindNumber && t.number == 1)
}

func (s *scanner) entries() []Entry {
	s.mark('[')
	first := s.next()
	if first.kind == ']' {
		return nil
	}
	var entries []Entry
	last := "" // below every tag
	for {
		e := s.entry(first, last)
		entries = append(entries, e)
		last = e.Name
		behind := s.next()
		if behind.kind == ']' {
			return entries
		}
		behind.must(behind.kind == ',' && len(entries) < api.MaxTags)
		first = s.next()
	}
}

func (s *scanner) entry(first token, last string) Entry {
	var e Entry
	s.object(first, []string{"tag", "digest", "size"}, func(name string) {
		switch name {
		case "tag":
			e.Name = s.tag(last)
		case "digest":
			e.Digest = s.digest()
		case "size":
			e.Size = s.size()
		}
	})
	return e
}

func (s *scanner) tag(last string) string {
	t := s.next()
	t.must(t.kind == kindString && IsTag(t.text) && t.text > last)
	return t.text
}

func (s *scanner) digest() digest.Digest {
	t := s.next()
	d, ok := digest.Read(t.text)
	t.must(t.kind == kindString && ok)
	return d
}

func (s *scanner) size() int {
	t := s.next()
	t.must(t.kind == kindNumber && isSize(t.number))
	return t.number
}
