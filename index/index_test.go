package index

import (
	"slices"
	"testing"

	"blobs/api"
	"blobs/digest"
)

// panicOf is what the call panics with; nil, if it doesn't.
func panicOf(call func()) (wrong any) {
	defer func() { wrong = recover() }()
	call()
	return nil
}

func TestReadGivesUpWithThePlace(t *testing.T) {
	for text, want := range map[string]any{
		`{"version":1,"tags":[]}`:        nil,
		``:                               Place(0),
		`{"version":1,"tags":[{"tag":1}`: Place(28),
		`{"version":1,"tags":[]}?`:       Place(23),
	} {
		if wrong := panicOf(func() { Read(text) }); wrong != want {
			t.Errorf("Read(%s) gives up with %v, want %v", text, wrong, want)
		}
	}
}

func TestScanString(t *testing.T) {
	for text, want := range map[string]string{
		`""`: ``, `"a b"`: `a b`, `"\""`: `"`, `"\\"`: `\`, `"\\\"x\\"`: `\"x\`, `" ~"`: ` ~`,
	} {
		s := &scanner{text: text + "x"}
		if got := s.next(); got.kind != kindString || got.text != want || s.at != len(text) {
			t.Errorf("P5: the string %s is %q and ends at %d", text, got.text, s.at)
		}
	}
}

func TestScanNumber(t *testing.T) {
	for text, want := range map[string]int{"0": 0, "1": 1, "10": 10, "300": 300, "999999999": 999999999} {
		s := &scanner{text: text + " 1"}
		if got := s.next(); got.kind != kindNumber || got.number != want || s.at != len(text) {
			t.Errorf("P5: the number %s is %d and ends at %d", text, got.number, s.at)
		}
	}
}

func TestScanOfWhatIsNoToken(t *testing.T) {
	for _, text := range []string{
		`"`, `"a`, `"\"`, `"\`, `"\n"`, `"\u0061"`, "\"\x00\"", "\"\x1f\"", "\"\x7f\"", "\"\x80\"", "\"\xff\"",
		"00", "01", "0123456789", "1234567890", "18446744073709551617",
		"-1", "a", "'", "\\", ".", "\x00", "\v", "\xa0",
	} {
		s := &scanner{text: " " + text}
		if wrong := panicOf(func() { s.next() }); wrong != Place(1) {
			t.Errorf("P5: %q gives up with %v, want its first byte", text, wrong)
		}
	}
}

func TestCheckKeepsNothing(t *testing.T) {
	tags := []api.Tag{{Name: "a", Digest: digest.Of("a").Text(), Size: 1}, {Name: "b", Digest: digest.Of("b").Text(), Size: 1}}
	entries, ok := Check(tags)
	if !ok || !slices.Equal(Tags(entries), tags) {
		t.Fatalf("Check = %v, %v", entries, ok)
	}
	tags[0] = api.Tag{}
	if entries[0].Name != "a" {
		t.Errorf("P2: the list that was handed in is kept")
	}
}
