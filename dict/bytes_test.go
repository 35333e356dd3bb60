package dict

import (
	"bytes"
	"slices"
	"strings"
	"testing"

	"gristmill/api"
)

// num is a number from 0 on as bytes, as chapter 1's words say it.
func num(n int) string {
	if n < 128 {
		return string([]byte{byte(n)})
	}
	return string([]byte{byte(n%128 + 128)}) + num(n/128)
}

// piece is a text's bytes: how many bytes it shares with the one ahead, and the others.
func piece(same int, rest string) string {
	return num(same) + num(len(rest)) + rest
}

// plainBytes are those of rising texts.
func plainBytes(unlike []string) string {
	out := num(len(unlike))
	for at, text := range unlike {
		same := 0
		for at > 0 && same < len(text) && plainBegins(unlike[at-1], text[:same+1]) {
			same++
		}
		out += piece(same, text[same:])
	}
	return out
}

func expectParsed(t *testing.T, b string, unlike []string) {
	t.Helper()
	d, code := Parse([]byte(b))
	if code != api.OK {
		t.Fatalf("Parse of %q: %d", unlike, code)
	}
	expectTexts(t, d, unlike)
	if string(d.Bytes()) != b {
		t.Fatalf("of %q, read from bytes: %q, not %q", unlike, d.Bytes(), b)
	}
}

func expectRefused(t *testing.T, b string, want api.Errno) {
	t.Helper()
	if d, code := Parse([]byte(b)); d != nil || code != want {
		t.Errorf("Parse(%.80q): %v, %d, not %d", b, d != nil, code, want)
	}
}

// TestBytes: P3.3, P3.4, what is written, and that it is read as it was.
func TestBytes(t *testing.T) {
	long := strings.Repeat("x", api.MaxText)
	for _, c := range []struct {
		unlike []string
		b      string
	}{
		{nil, "\x00"},
		{[]string{""}, "\x01\x00\x00"},
		{[]string{"", "a"}, "\x02\x00\x00\x00\x01a"},
		{[]string{"ab", "abc", "b"}, "\x03\x00\x02ab\x02\x01c\x00\x01b"},
		{[]string{"ab", "ac", "acd"}, "\x03\x00\x02ab\x01\x01c\x02\x01d"},
		{[]string{long[1:], long}, "\x02\x00\x3f" + long[1:] + "\x3f\x01x"},
		{[]string{long[1:] + "a", long}, "\x02\x00\x40" + long[1:] + "a\x3f\x01x"},
	} {
		if got := built(t, c.unlike...).Bytes(); string(got) != c.b {
			t.Errorf("Bytes of %q: %q, not %q", c.unlike, got, c.b)
		}
		expectParsed(t, c.b, c.unlike)
	}
}

// TestBytesMany: P3.3, P3.4, as many texts as may be.
func TestBytesMany(t *testing.T) {
	most := many(api.MaxFacts)
	slices.Reverse(most)
	b := plainBytes(most)
	if got := built(t, most...).Bytes(); string(got) != b {
		t.Errorf("Bytes of %d texts: %d bytes, not %d", len(most), len(got), len(b))
	}
	expectParsed(t, b, most)
}

// TestBytesThrown: P3.3, P3.4, thrown texts, held against the plain way.
func TestBytesThrown(t *testing.T) {
	thrown := stream(33)
	for range 400 {
		texts := thrownTexts(&thrown)
		unlike := plainUnlike(texts)
		b := plainBytes(unlike)
		if got := built(t, texts...).Bytes(); string(got) != b {
			t.Fatalf("Bytes of %q: %q, not %q", texts, got, b)
		}
		expectParsed(t, b, unlike)
	}
}

// TestParseCut: P3.3, bytes cut short at every place, and bytes left over.
func TestParseCut(t *testing.T) {
	long := strings.Repeat("y", api.MaxText)
	for _, unlike := range [][]string{nil, {""}, {"", "a"}, {"ab", "abc", "b"}, {"a", long[1:], long}} {
		b := plainBytes(unlike)
		for cut := range len(b) {
			expectRefused(t, b[:cut], api.ErrShort)
		}
		for _, more := range []string{"\x00", "\xff", "\x00\x01z", b} {
			expectRefused(t, b+more, api.ErrForm)
		}
	}
	if d, code := Parse(nil); d != nil || code != api.ErrShort {
		t.Errorf("Parse(nil): %v, %d", d, code)
	}
}

// TestParseForm: P3.3, what can be read, but is no dictionary's.
func TestParseForm(t *testing.T) {
	long := strings.Repeat("x", api.MaxText)
	twice := piece(0, "a") + piece(0, "b")
	for _, b := range []string{
		num(2) + piece(0, "b") + piece(0, "a"),                          // falling
		num(2) + piece(0, "ab") + piece(1, "a"),                         // falling behind what they share
		num(2) + piece(0, "ab") + piece(1, ""),                          // the one ahead begins with it
		num(2) + piece(0, "a") + piece(0, ""),                           // the empty text behind another one
		num(2) + piece(0, "a") + piece(1, ""),                           // twice
		num(2) + piece(0, "a") + piece(0, "a"),                          // twice, told as unlike
		num(2) + piece(0, "") + piece(0, ""),                            // the empty text twice
		num(4) + twice + twice,                                          // twice, further on
		num(1) + piece(1, "a"),                                          // the first one shares nothing
		num(2) + piece(0, "a") + piece(2, "b"),                          // longer than the one ahead
		num(2) + piece(0, "") + piece(1, "b"),                           // longer than the empty one
		num(2) + piece(0, "a") + strings.Repeat("\xff", 9) + "\x01\x00", // as long as a number may be
		num(2) + piece(0, "ab") + piece(0, "abc"),                       // shorter than may be
		num(2) + piece(0, "ab") + piece(1, "bc"),                        // shorter than may be, by one
		num(2) + piece(0, "ab") + piece(0, "ac"),                        // shorter than may be, to a like byte
		num(1) + piece(0, long+"x"),                                     // too long
		num(2) + piece(0, long) + piece(64, "x"),                        // too long with what is shared
		num(2) + piece(0, long[:60]) + piece(60, "aaaaa"),               // too long by one
		num(3) + piece(0, "b") + piece(0, "a") + piece(0, "c"),          // falling, and all is well again
		"\x80\x00", "\x81\x00\x00\x00", num(1) + "\x80\x00\x00", num(1) + "\x00\x81\x00a", // no numbers
	} {
		expectRefused(t, b, api.ErrForm)
	}
	tooMany := many(api.MaxFacts + 1)
	slices.Reverse(tooMany)
	expectRefused(t, plainBytes(tooMany), api.ErrForm)
}

// TestParseShortFirst: P3.3, the reader's error goes ahead of a form that may not be.
func TestParseShortFirst(t *testing.T) {
	long := strings.Repeat("x", api.MaxText+1)
	for _, b := range []string{
		num(3) + piece(0, "b") + piece(0, "a") + "\x00\x01",
		num(3) + piece(0, "a") + piece(9, "a") + "\x00\x01",
		num(2) + piece(0, long) + "\x00\x02z",
		num(2) + piece(1, "a") + "\x00\x80",
	} {
		expectRefused(t, b, api.ErrShort)
	}
	tooMany := many(api.MaxFacts + 1)
	slices.Reverse(tooMany)
	whole := plainBytes(tooMany)
	expectRefused(t, whole[:len(whole)-1], api.ErrShort)
}

// TestParseCount: P3.3, the count is asked by Count(2).
func TestParseCount(t *testing.T) {
	expectRefused(t, "\x09", api.ErrShort)
	expectRefused(t, "\x02\x80\x00\x00", api.ErrShort)               // 2 texts have at least 4 bytes
	expectRefused(t, "\x02\x80\x00\x00\x00", api.ErrForm)            // 4 bytes follow: no number
	expectRefused(t, "\x01\x00", api.ErrShort)                       // 1 text has at least 2
	expectRefused(t, num(1<<40)+"\x00\x00", api.ErrShort)            // more than there can be
	expectRefused(t, strings.Repeat("\xff", 9)+"\x01", api.ErrShort) // the greatest number
	expectRefused(t, strings.Repeat("\xff", 9)+"\x02", api.ErrForm)  // one of more than 64 bits
}

// TestBytesNew: P3.3, in new memory.
func TestBytesNew(t *testing.T) {
	d := built(t, "ab", "abc", "b")
	b := d.Bytes()
	want := bytes.Clone(b)
	clear(b)
	if !bytes.Equal(d.Bytes(), want) {
		t.Errorf("changed with what was answered: %v", d.Bytes())
	}
	b = bytes.Clone(want)
	d, code := Parse(b)
	if code != api.OK || !bytes.Equal(b, want) {
		t.Fatalf("%d, %v", code, b)
	}
	clear(b)
	expectTexts(t, d, []string{"ab", "abc", "b"})
}

// TestParseThrown: P3.3, P3.4, nothing but what Bytes writes is read.
func TestParseThrown(t *testing.T) {
	thrown := stream(333)
	for range 20000 {
		texts := thrownTexts(&thrown)
		b := []byte(plainBytes(plainUnlike(texts[:min(len(texts), 5)])))
		for range 1 + thrown.below(3) {
			b[thrown.below(len(b))] = byte(thrown.below(5))
		}
		d, code := Parse(b)
		if code == api.OK && !bytes.Equal(d.Bytes(), b) {
			t.Fatalf("Parse(%q) is that of %q", b, d.Bytes())
		}
		if code != api.OK && d != nil || code != api.OK && code != api.ErrShort && code != api.ErrForm {
			t.Fatalf("Parse(%q): %d", b, code)
		}
	}
}
