package blobs_test

import (
	"math"
	"slices"
	"strconv"
	"strings"
	"testing"

	"blobs/api"
	"blobs/blobs"
)

const emptyIndex = `{"version":1,"tags":[]}`

func tagOf(name string, size int) api.Tag {
	return api.Tag{Name: name, Digest: hashOf(name), Size: size}
}

func entryText(x api.Tag) string {
	return `{"tag":"` + x.Name + `","digest":"` + x.Digest + `","size":` + strconv.Itoa(x.Size) + `}`
}

func indexText(l []api.Tag) string {
	var entries []string
	for _, x := range l {
		entries = append(entries, entryText(x))
	}
	return `{"version":1,"tags":[` + strings.Join(entries, ",") + `]}`
}

// risingTags is so many tags, the longest that there are.
func risingTags(count int) []api.Tag {
	var l []api.Tag
	for i := range count {
		l = append(l, tagOf(strconv.Itoa(10+i)+strings.Repeat("z", api.MaxTag-2), api.MaxBlob))
	}
	return l
}

// indexes has lists that are an index.
func indexes() [][]api.Tag {
	return [][]api.Tag{
		nil,
		{},
		{tagOf("a", 0)},
		{tagOf("0", api.MaxBlob)},
		{tagOf("a", 1), tagOf("a-", 10), tagOf("a.b_-9", 99), tagOf("aa", 100), tagOf("b", 0)},
		{tagOf("9..--__", 5), tagOf("z", 5)},
		risingTags(1),
		risingTags(api.MaxTags - 1),
		risingTags(api.MaxTags),
	}
}

func TestPrintAndParseOfIndexes(t *testing.T) {
	for _, l := range indexes() {
		want := indexText(l)
		if text, e := blobs.Print(l); text != want || e != api.OK {
			t.Errorf("P4: Print(%v) = %s, %d, want %s", l, text, e, want)
		}
		if back, e, at := blobs.Parse(want); !slices.Equal(back, l) || e != api.OK || at != 0 {
			t.Errorf("P5: Parse(%s) = %v, %d, %d", want, back, e, at)
		}
	}
}

func TestPrintOfTheExample(t *testing.T) {
	l := []api.Tag{{Name: "one", Digest: blobs.Hash("abc"), Size: 3}}
	want := `{"version":1,"tags":[{"tag":"one","digest":"ba7816bf8f01cfea414140de5dae2223b00361a396177a9cb410ff61f20015ad","size":3}]}`
	if text, e := blobs.Print(l); text != want || e != api.OK {
		t.Errorf("P4: Print = %s, %d", text, e)
	}
}

func wantNoIndex(t *testing.T, l []api.Tag) {
	t.Helper()
	if text, e := blobs.Print(l); text != "" || e != api.ErrArg {
		t.Errorf("P4: Print of %d entries, the last %v = %s, %d, want ErrArg and no text", len(l), l[len(l)-1], text, e)
	}
}

func TestPrintOfTooManyTags(t *testing.T) {
	wantNoIndex(t, risingTags(api.MaxTags+1))
	wantNoIndex(t, make([]api.Tag, 100000))
}

func TestPrintOfTagsThatDontRise(t *testing.T) {
	for _, names := range [][]string{{"a", "a"}, {"b", "a"}, {"aa", "a"}, {"a", "9"}, {"a", "b", "b"}, {"a", "c", "b"}, {"a_", "a."}} {
		var l []api.Tag
		for _, name := range names {
			l = append(l, tagOf(name, 0))
		}
		wantNoIndex(t, l)
	}
}

func TestPrintOfWrongNames(t *testing.T) {
	for _, name := range []string{"", ".", "-a", "_a", "A", "aB", "a b", "a/b", "a\x00", "ä", "a\xff", strings.Repeat("a", api.MaxTag+1), strings.Repeat("a", 100000)} {
		wantNoIndex(t, []api.Tag{tagOf(name, 0)})
		wantNoIndex(t, []api.Tag{tagOf("0", 0), tagOf(name, 0)})
	}
}

const smallAndDigits = "abcdefghijklmnopqrstuvwxyz0123456789"

func TestPrintOfNamesOfEveryByte(t *testing.T) {
	for b := range 256 {
		letter := string([]byte{byte(b)})
		for _, c := range []struct {
			name string
			ok   bool
		}{
			{letter, strings.Contains(smallAndDigits, letter)},
			{letter + "a", strings.Contains(smallAndDigits, letter)},
			{"a" + letter, strings.Contains(smallAndDigits+"._-", letter)},
			{"a" + letter + "a", strings.Contains(smallAndDigits+"._-", letter)},
		} {
			if _, e := blobs.Print([]api.Tag{tagOf(c.name, 0)}); (e == api.OK) != c.ok {
				t.Errorf("P4: Print of the name %q answers %d", c.name, e)
			}
		}
	}
}

func TestPrintOfWrongDigests(t *testing.T) {
	good := hashOf("")
	for _, digest := range []string{"", "0", good[1:], good + "0", good[:63] + "g", good[:63] + "F", " " + good[1:], good[:31] + "\x00" + good[32:], strings.Repeat("0", 100000)} {
		wantNoIndex(t, []api.Tag{{Name: "a", Digest: digest, Size: 0}})
	}
}

func TestPrintOfWrongSizes(t *testing.T) {
	for _, size := range []int{-1, api.MaxBlob + 1, math.MinInt, math.MaxInt} {
		wantNoIndex(t, []api.Tag{tagOf("a", size)})
	}
}

func TestPrintLeavesTheListAsItIs(t *testing.T) {
	whole := []api.Tag{tagOf("a", 1), tagOf("b", 2), tagOf("x", 3), tagOf("c", -4)}
	before := slices.Clone(whole)
	for n := range len(whole) + 1 {
		blobs.Print(whole[:n])
		if !slices.Equal(whole, before) {
			t.Fatalf("P2: Print of %d entries changes the list to %v", n, whole)
		}
	}
}
