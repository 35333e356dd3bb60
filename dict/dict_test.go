package dict

import (
	"math"
	"slices"
	"strconv"
	"strings"
	"testing"

	"gristmill/api"
)

// stream tells numbers that look thrown, the same ones at each run.
type stream uint64

func (s *stream) below(n int) int {
	*s = *s*6364136223846793005 + 1442695040888963407
	return int(uint64(*s) >> 31 % uint64(n))
}

// thrownText is made of few letters, so that texts often begin alike.
func thrownText(thrown *stream, most int) string {
	letters := "ab\x00\xff"
	b := []byte{}
	for range thrown.below(most + 1) {
		b = append(b, letters[thrown.below(len(letters))])
	}
	return string(b)
}

func thrownTexts(thrown *stream) []string {
	texts := []string{}
	most := 1 + thrown.below(5)
	for range thrown.below(40) {
		texts = append(texts, thrownText(thrown, most))
	}
	return texts
}

// many are so many unlike texts, falling.
func many(n int) []string {
	texts := []string{}
	for at := n - 1; at >= 0; at-- {
		texts = append(texts, strconv.Itoa(100000+at))
	}
	return texts
}

// plainBelow compares byte by byte, as the document's words say it.
func plainBelow(a, b string) bool {
	for at := 0; at < len(a) && at < len(b); at++ {
		if a[at] != b[at] {
			return a[at] < b[at]
		}
	}
	return len(a) < len(b)
}

// plainUnlike puts each text that isn't there yet ahead of the first one that is above it.
func plainUnlike(texts []string) []string {
	out := []string{}
	for _, text := range texts {
		if slices.Contains(out, text) {
			continue
		}
		at := 0
		for at < len(out) && plainBelow(out[at], text) {
			at++
		}
		out = slices.Insert(out, at, text)
	}
	return out
}

func plainBegins(text, prefix string) bool {
	return len(text) >= len(prefix) && text[:len(prefix)] == prefix
}

// plainBegin counts those below, and those that begin so.
func plainBegin(unlike []string, prefix string) (int, int) {
	below, begin := 0, 0
	for _, text := range unlike {
		if plainBelow(text, prefix) {
			below++
		}
		if plainBegins(text, prefix) {
			begin++
		}
	}
	return below, below + begin
}

func built(t *testing.T, texts ...string) *Dict {
	t.Helper()
	d, code := Build(texts)
	if code != api.OK || d == nil {
		t.Fatalf("Build(%q): %v, %d", texts, d, code)
	}
	return d
}

// expectTexts asks for each number, and those around them.
func expectTexts(t *testing.T, d *Dict, unlike []string) {
	t.Helper()
	if d == nil || d.Len() != len(unlike) {
		t.Fatalf("Len of %q: %d", unlike, d.Len())
	}
	for id, text := range unlike {
		if got, there := d.Text(id); got != text || !there {
			t.Fatalf("of %q: Text(%d): %q, %v", unlike, id, got, there)
		}
		if got, there := d.Id(text); got != id || !there {
			t.Fatalf("of %q: Id(%q): %d, %v", unlike, text, got, there)
		}
	}
	for _, id := range []int{math.MinInt, -2, -1, len(unlike), len(unlike) + 1, math.MaxInt} {
		if got, there := d.Text(id); got != "" || there {
			t.Fatalf("of %q: Text(%d): %q, %v", unlike, id, got, there)
		}
	}
}

// expectAsked asks all that may be asked by a text, which may be there or not.
func expectAsked(t *testing.T, d *Dict, unlike []string, text string) {
	t.Helper()
	id, there := d.Id(text)
	if want := slices.Index(unlike, text); there != (want >= 0) || id != max(want, 0) {
		t.Fatalf("of %q: Id(%q): %d, %v", unlike, text, id, there)
	}
	lo, hi := plainBegin(unlike, text)
	if got := d.From(text); got != lo {
		t.Fatalf("of %q: From(%q): %d, not %d", unlike, text, got, lo)
	}
	if gotLo, gotHi := d.Begin(text); gotLo != lo || gotHi != hi {
		t.Fatalf("of %q: Begin(%q): %d, %d, not %d, %d", unlike, text, gotLo, gotHi, lo, hi)
	}
}

// TestExample: P3.1, P3.2, the document's example.
func TestExample(t *testing.T) {
	d := built(t, "b", "ab", "b", "abc")
	expectTexts(t, d, []string{"ab", "abc", "b"})
	if id, there := d.Id("b"); id != 2 || !there {
		t.Errorf("Id of b: %d, %v", id, there)
	}
	if got := d.From("abd"); got != 2 {
		t.Errorf("From of abd: %d", got)
	}
	if lo, hi := d.Begin("ab"); lo != 0 || hi != 2 {
		t.Errorf("Begin of ab: %d, %d", lo, hi)
	}
}

// TestBuild: P3.1, unlike texts, rising byte by byte.
func TestBuild(t *testing.T) {
	for _, c := range []struct{ texts, unlike []string }{
		{nil, nil},
		{[]string{}, nil},
		{[]string{""}, []string{""}},
		{[]string{"", "", ""}, []string{""}},
		{[]string{"a", "", "a"}, []string{"", "a"}},
		{[]string{"abc", "ab", "a"}, []string{"a", "ab", "abc"}},
		{[]string{"a\x00", "a", "a\x01"}, []string{"a", "a\x00", "a\x01"}},
		{[]string{"b", "B", "ä", "\xff", "\x80", "\x7f"}, []string{"B", "b", "\x7f", "\x80", "ä", "\xff"}},
		{[]string{"10", "9", "1"}, []string{"1", "10", "9"}},
	} {
		expectTexts(t, built(t, c.texts...), c.unlike)
	}
}

// TestBuildLong: P3.1, texts of MaxText bytes, and of one more.
func TestBuildLong(t *testing.T) {
	most := strings.Repeat("x", api.MaxText)
	expectTexts(t, built(t, most, "a"), []string{"a", most})
	for _, texts := range [][]string{{most + "x"}, {"a", most + "x"}, {most + "x", "a"}, {"a", strings.Repeat("ä", 33), "b"}} {
		if d, code := Build(texts); d != nil || code != api.ErrArg {
			t.Errorf("Build(%q): %v, %d", texts, d, code)
		}
	}
}

// TestBuildMany: P3.1, MaxFacts unlike texts, and one more; more texts, of which no more are unlike.
func TestBuildMany(t *testing.T) {
	most := many(api.MaxFacts)
	rising := slices.Clone(most)
	slices.Reverse(rising)
	expectTexts(t, built(t, most...), rising)
	expectTexts(t, built(t, slices.Concat(most, most, most[:7])...), rising)
	expectTexts(t, built(t, slices.Repeat([]string{"b", "a"}, api.MaxFacts)...), []string{"a", "b"})
	for _, texts := range [][]string{many(api.MaxFacts + 1), append(slices.Clone(most), ""), slices.Concat(most, most, []string{"x"})} {
		if d, code := Build(texts); d != nil || code != api.ErrArg {
			t.Errorf("Build of %d texts: %d", len(texts), code)
		}
	}
}

// TestBuildKeepsNothing: P3.1, the list that is handed in is neither changed nor kept.
func TestBuildKeepsNothing(t *testing.T) {
	texts := []string{"b", "ab", "b", "abc"}
	d := built(t, texts...)
	if !slices.Equal(texts, []string{"b", "ab", "b", "abc"}) {
		t.Errorf("changed: %q", texts)
	}
	clear(texts)
	expectTexts(t, d, []string{"ab", "abc", "b"})
}

// TestNil: P3.1, of nil.
func TestNil(t *testing.T) {
	var d *Dict
	for _, id := range []int{-1, 0, 1} {
		if got, there := d.Text(id); got != "" || there {
			t.Errorf("Text(%d): %q, %v", id, got, there)
		}
	}
	for _, text := range []string{"", "a"} {
		if id, there := d.Id(text); id != 0 || there {
			t.Errorf("Id(%q): %d, %v", text, id, there)
		}
		if lo, hi := d.Begin(text); lo != 0 || hi != 0 || d.From(text) != 0 {
			t.Errorf("Begin(%q): %d, %d", text, lo, hi)
		}
	}
	if d.Len() != 0 || len(d.Bytes()) != 0 {
		t.Errorf("%d, %v", d.Len(), d.Bytes())
	}
}

// TestAsk: P3.2, texts that are there, and those around them.
func TestAsk(t *testing.T) {
	long := strings.Repeat("b", api.MaxText)
	for _, unlike := range [][]string{
		{}, {""}, {"", "a"}, {"a", "ab", "abc", "abd", "b"}, {"a\xff", "a\xff\xff", "b"}, {"b", long},
		{"\xff", "\xff\xff"}, {"ac", "ae"},
	} {
		d := built(t, unlike...)
		expectTexts(t, d, unlike)
		for _, text := range []string{
			"", "a", "ab", "abc", "abcd", "abd", "ac", "ad", "aa", "a\xff", "a\xff\xff", "b", "bb", "c", "\x00", "\xff",
			"\xff\xff", "\xff\xff\xff", long, long[1:], long + "b", long + long,
		} {
			expectAsked(t, d, unlike, text)
		}
	}
}

// TestThrown: P3.1, P3.2, P3.4, thrown texts, held against the plain way.
func TestThrown(t *testing.T) {
	thrown := stream(3)
	for range 400 {
		texts := thrownTexts(&thrown)
		unlike := plainUnlike(texts)
		d := built(t, texts...)
		expectTexts(t, d, unlike)
		for range 40 {
			expectAsked(t, d, unlike, thrownText(&thrown, 6))
		}
		for id := 1; id < d.Len(); id++ {
			lower, _ := d.Text(id - 1)
			upper, _ := d.Text(id)
			if !plainBelow(lower, upper) {
				t.Fatalf("%q is %d, but not below %q", lower, id-1, upper)
			}
		}
	}
}
