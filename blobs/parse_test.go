package blobs_test

import (
	"math/rand/v2"
	"slices"
	"strings"
	"testing"

	"blobs/api"
	"blobs/blobs"
)

func wantParse(t *testing.T, text string, want []api.Tag) {
	t.Helper()
	if l, e, at := blobs.Parse(text); !slices.Equal(l, want) || e != api.OK || at != 0 {
		t.Errorf("P5: Parse(%q) = %v, %d, %d, want %v", text, l, e, at, want)
	}
}

func wantWrongAt(t *testing.T, text string, place int) {
	t.Helper()
	if l, e, at := blobs.Parse(text); len(l) != 0 || e != api.ErrText || at != place {
		t.Errorf("P5: Parse(%q) = %v, %d, %d, want ErrText at %d", text, l, e, at, place)
	}
}

func TestParseOfTheExamples(t *testing.T) {
	wantParse(t, `{"version":1,"tags":[]}`, nil)
	wantParse(t, ` { "tags" : [ ] , "version" : 1 } `, nil)
	for text, place := range map[string]int{
		``: 0, `{`: 1, `{"version":1}`: 12, `{"version":01,"tags":[]}`: 11, `{"version":2,"tags":[]}`: 11,
		`{"version":1,"version":1}`: 13, `{"tags":[],"version":1,}`: 22, `{"tags":[,]}`: 9, `{"tags":[]]`: 10, `[]`: 0, `{"tags":[]}x`: 10,
		`{"version":1,"tags":[]}x`: 23,
	} {
		wantWrongAt(t, text, place)
	}
}

func TestParseOfMembersInAnyOrder(t *testing.T) {
	x := tagOf("one", 300)
	members := []string{`"tag":"one"`, `"digest":"` + x.Digest + `"`, `"size":300`}
	for _, order := range [][]int{{0, 1, 2}, {0, 2, 1}, {1, 0, 2}, {1, 2, 0}, {2, 0, 1}, {2, 1, 0}} {
		entry := "{" + members[order[0]] + "," + members[order[1]] + "," + members[order[2]] + "}"
		wantParse(t, `{"version":1,"tags":[`+entry+`]}`, []api.Tag{x})
		wantParse(t, `{"tags":[`+entry+`],"version":1}`, []api.Tag{x})
	}
}

// step is a token of a text, and which other tokens may stand in its place.
type step struct {
	token string
	may   func(token string) bool
}

func only(tokens ...string) func(string) bool {
	return func(token string) bool { return slices.Contains(tokens, token) }
}

var isSize = only(`0`, `1`, `2`, `7`, `10`, `300`)

func tagAbove(last string) func(string) bool {
	return func(token string) bool {
		name := strings.Trim(token, `"`)
		_, e := blobs.Print([]api.Tag{tagOf(name, 0)})
		return len(token) == len(name)+2 && e == api.OK && name > last
	}
}

// steps is an index with two entries, the members in different orders.
func steps() []step {
	digest := `"` + hashOf("") + `"`
	var l []step
	add := func(token string, may func(string) bool) { l = append(l, step{token, may}) }
	marks := func(tokens ...string) {
		for _, x := range tokens {
			add(x, only(x))
		}
	}
	marks(`{`)
	add(`"version"`, only(`"version"`, `"tags"`))
	marks(`:`, `1`, `,`, `"tags"`, `:`, `[`)
	add(`{`, only(`{`, `]`))
	add(`"tag"`, only(`"tag"`, `"digest"`, `"size"`))
	marks(`:`)
	add(`"b"`, tagAbove(""))
	marks(`,`)
	add(`"digest"`, only(`"digest"`, `"size"`))
	marks(`:`, digest, `,`, `"size"`, `:`)
	add(`7`, isSize)
	marks(`}`)
	add(`,`, only(`,`, `]`))
	marks(`{`)
	add(`"size"`, only(`"tag"`, `"digest"`, `"size"`))
	marks(`:`)
	add(`0`, isSize)
	marks(`,`)
	add(`"digest"`, only(`"digest"`, `"tag"`))
	marks(`:`, digest, `,`, `"tag"`, `:`)
	add(`"c"`, tagAbove("b"))
	marks(`}`)
	add(`]`, only(`]`, `,`))
	marks(`}`)
	return l
}

// otherTokens has tokens of every kind, and what looks like one and is none.
var otherTokens = []string{
	`{`, `}`, `[`, `]`, `:`, `,`,
	`0`, `1`, `7`, `10`, `300`, `301`, `2`, `999999999`, `1000000000`, `00`, `01`, `18446744073709551617`, `-1`, `+1`,
	`"version"`, `"tags"`, `"tag"`, `"digest"`, `"size"`, `"Tag"`, `"tag "`, `""`, `"a"`, `"b"`, `"b."`, `"c"`, `".c"`, `"1"`, `"012345678901234567890"`,
	`"\""`, `"\\"`, `"ta\"g"`, `"t\u0061g"`, `"t` + "\n" + `ag"`, `"t` + "\x7f" + `ag"`, `"t` + "\x80" + `ag"`, `"\x"`, `"tag`, `"`, `"tag\"`,
	`true`, `null`, `'tag'`, `.`, `\`, "\x00", "\v", "\f", "\xa0", "\xff", "é",
}

func joined(l []step, space string) string {
	var tokens []string
	for _, s := range l {
		tokens = append(tokens, s.token)
	}
	return strings.Join(tokens, space)
}

func TestParseOfEveryTokenInEveryPlace(t *testing.T) {
	l := steps()
	wantParse(t, joined(l, ""), []api.Tag{{Name: "b", Digest: hashOf(""), Size: 7}, {Name: "c", Digest: hashOf(""), Size: 0}})
	for _, space := range []string{" ", "\t\r\n  "} {
		for i, s := range l {
			ahead := joined(l[:i], space) + space
			wantWrongAt(t, ahead, len(ahead))
			for _, other := range otherTokens {
				text := ahead + other + space + joined(l[i+1:], space)
				if !s.may(other) {
					wantWrongAt(t, text, len(ahead))
				} else if _, e, at := blobs.Parse(text); e == api.ErrText && at <= len(ahead) {
					t.Errorf("P5: Parse(%q) is wrong at %d, where %s may stand", text, at, other)
				}
			}
		}
	}
}

func TestParseOfTokensBehindTheIndex(t *testing.T) {
	for _, space := range []string{"", " ", "\n\t\r"} {
		wantParse(t, emptyIndex+space, nil)
		for _, other := range otherTokens {
			wantWrongAt(t, emptyIndex+space+other, len(emptyIndex+space))
		}
	}
}

// A text that ends within a string is wrong at the string's first byte, else where it ends.
func TestParseOfTextsThatEndTooEarly(t *testing.T) {
	whole := joined(steps(), "")
	for n := range whole {
		place := n
		if strings.Count(whole[:n], `"`)%2 == 1 {
			place = strings.LastIndex(whole[:n], `"`)
		}
		wantWrongAt(t, whole[:n], place)
	}
}

func TestParseOfNumbers(t *testing.T) {
	const ahead = `{"tags":[{"size":`
	for _, number := range []string{"0", "1", "9", "10", "99", "299", "300"} {
		wantWrongAt(t, ahead+number, len(ahead+number))
		wantWrongAt(t, ahead+number+"x", len(ahead+number))
		wantWrongAt(t, ahead+number+".0", len(ahead+number))
	}
	for _, number := range []string{"301", "1000", "00", "000", "01", "0300", "123456789", "1234567890", "4294967296", "18446744073709551616", "-0", "x1", strings.Repeat("0", 1000), strings.Repeat("9", 1000)} {
		wantWrongAt(t, ahead+number, len(ahead))
		wantWrongAt(t, ahead+number+`,"tag"`, len(ahead))
	}
	for _, version := range []string{"0", "2", "10", "11", "01", "4294967297", "18446744073709551617"} {
		wantWrongAt(t, `{"version":`+version+`,"tags":[]}`, 11)
	}
}

func TestParseOfTagsOfEveryByte(t *testing.T) {
	const ahead = `{"tags":[{"tag":`
	for b := range 256 {
		letter := string([]byte{byte(b)})
		name := `"a` + letter + `a"`
		place := len(ahead)
		switch {
		case strings.Contains(smallAndDigits+"._-", letter):
			place = len(ahead + name)
		case letter == `"`: // the tag ends here, and what stands behind it is wrong
			place = len(ahead + `"a"`)
		}
		wantWrongAt(t, ahead+name, place)
	}
}

func TestParseOfLongTags(t *testing.T) {
	const ahead = `{"tags":[{"tag":`
	longest := `"` + strings.Repeat("a", api.MaxTag) + `"`
	wantWrongAt(t, ahead+longest, len(ahead+longest))
	wantWrongAt(t, ahead+`"a`+longest[1:], len(ahead))
}

func TestParseOfSpaces(t *testing.T) {
	for b := range 256 {
		space := string([]byte{byte(b)})
		if !strings.Contains("\t\n\r ", space) {
			if space != "{" { // the index's first token, which stands there twice then
				wantWrongAt(t, space+emptyIndex, 0)
			}
			wantWrongAt(t, emptyIndex+space, len(emptyIndex))
			continue
		}
		wantParse(t, space+joined(steps(), space)+space, []api.Tag{{Name: "b", Digest: hashOf(""), Size: 7}, {Name: "c", Digest: hashOf(""), Size: 0}})
	}
	wantWrongAt(t, "{"+emptyIndex, 1)
	wantWrongAt(t, " \t\n\r", 4)
	wantWrongAt(t, `{"version":1 2,"tags":[]}`, 13)
}

func TestParseOfTheMostTags(t *testing.T) {
	most := indexText(risingTags(api.MaxTags))
	wantParse(t, most, risingTags(api.MaxTags))
	wantWrongAt(t, indexText(risingTags(api.MaxTags+1)), len(most)-2)
	wantWrongAt(t, most[:len(most)-2]+`,]}`, len(most)-2)
}

func TestParseOfTagsThatDontRise(t *testing.T) {
	for _, names := range [][2]string{{"b", "a"}, {"b", "b"}, {"bb", "b"}, {"b", "9"}} {
		first := `{"version":1,"tags":[` + entryText(tagOf(names[0], 0)) + `,`
		wantWrongAt(t, first+entryText(tagOf(names[1], 0))+`]}`, len(first)+len(`{"tag":`))
	}
}

func TestParseOfLongTexts(t *testing.T) {
	most := strings.Repeat(" ", api.MaxText-len(emptyIndex))
	wantParse(t, most+emptyIndex, nil)
	wantParse(t, emptyIndex+most, nil)
	wantWrongAt(t, strings.Repeat(" ", api.MaxText), api.MaxText)
	wantWrongAt(t, `"`+strings.Repeat("a", api.MaxText-1), 0)
	wantWrongAt(t, strings.Repeat("[", api.MaxText), 0)
	for _, text := range []string{most + " " + emptyIndex, emptyIndex + most + " ", strings.Repeat("?", api.MaxText+1), strings.Repeat("{", 1000000)} {
		if l, e, at := blobs.Parse(text); len(l) != 0 || e != api.ErrLong || at != 0 {
			t.Errorf("P5: Parse of %d bytes = %v, %d, %d, want ErrLong at 0", len(text), l, e, at)
		}
	}
}

// changed is the text with a few bytes taken out, put in or exchanged.
func changed(text string, random *rand.Rand) string {
	b := []byte(text)
	for range 1 + random.IntN(3) {
		at := random.IntN(len(b) + 1)
		end := min(len(b), at+random.IntN(3))
		put := otherTokens[random.IntN(len(otherTokens))]
		b = slices.Replace(b, at, end, []byte(put)[:random.IntN(len(put)+1)]...)
	}
	return string(b)
}

// What stands ahead of the place must be right: it is an index, or the beginning of one.
func TestParseOfChangedTexts(t *testing.T) {
	random := rand.New(rand.NewPCG(1, 2))
	for range 100000 {
		text := changed(joined(steps(), []string{"", " "}[random.IntN(2)]), random)
		l, e, at := blobs.Parse(text)
		switch {
		case e == api.OK && at == 0:
			back, e := blobs.Print(l)
			if again, _, _ := blobs.Parse(back); e != api.OK || !slices.Equal(again, l) {
				t.Fatalf("P5: Parse(%q) = %v, of which Print is %s, %d", text, l, back, e)
			}
		case e == api.ErrText && len(l) == 0 && 0 <= at && at <= len(text):
			if _, e, before := blobs.Parse(text[:at]); e != api.OK && before != at {
				t.Fatalf("P5: Parse(%q) is wrong at %d, and what stands ahead of it at %d", text, at, before)
			}
		default:
			t.Fatalf("P1: Parse(%q) = %v, %d, %d", text, l, e, at)
		}
	}
}

func TestNoTextPanics(t *testing.T) {
	random := rand.New(rand.NewPCG(3, 4))
	for range 20000 {
		b := make([]byte, random.IntN(40))
		for i := range b {
			b[i] = byte(random.IntN(256))
		}
		text := string(b)
		blobs.Hash(text)
		blobs.Print([]api.Tag{{Name: text, Digest: text, Size: random.Int()}})
		if l, e, at := blobs.Parse(text); len(l) != 0 || e != api.ErrText || at < 0 || at > len(text) {
			t.Fatalf("P1: Parse(%q) = %v, %d, %d", text, l, e, at)
		}
	}
}

func TestParseAnswersNewMemory(t *testing.T) {
	want := risingTags(3)
	text := indexText(want)
	first, _, _ := blobs.Parse(text)
	second, _, _ := blobs.Parse(text)
	spare := first[:cap(first)]
	for i := range spare {
		spare[i] = tagOf("other", i)
	}
	third, _, _ := blobs.Parse(text)
	if !slices.Equal(second, want) || !slices.Equal(third, want) {
		t.Errorf("P2: an answer shares memory with another: %v, %v", second, third)
	}
}
