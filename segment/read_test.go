package segment

import (
	"bytes"
	"fmt"
	"strings"
	"testing"

	"gristmill/api"
)

// TestReadFrame: P10.2, wire.Unframe's errors.
func TestReadFrame(t *testing.T) {
	expectReadRefused(t, nil, api.ErrShort)
	b := built(t, schema, example())
	for size := range b {
		want := api.ErrForm
		if size < 8 {
			want = api.ErrShort
		}
		expectReadRefused(t, b[:size], want)
	}
	expectReadRefused(t, append(bytes.Clone(b), 0), api.ErrForm)
	expectReadRefused(t, append(bytes.Clone(b), b...), api.ErrForm)
	expectReadRefused(t, make([]byte, 8), api.ErrSum)
	for at := range b {
		changed := bytes.Clone(b)
		changed[at]++
		want := api.ErrSum
		if at >= 4 && at < 8 {
			want = api.ErrForm
		}
		expectReadRefused(t, changed, want)
	}
	// A sum that is wrong goes ahead of a body that is none.
	wrong := framed("\x09")
	wrong[0]++
	expectReadRefused(t, wrong, api.ErrSum)
	// A body that is too long, in a frame whose sum and length are right.
	expectReadRefused(t, framed(strings.Repeat("\x00", api.MaxBytes+1)), api.ErrForm)
}

// TestReadCut: P10.2, a body in a right frame that ends too early, or has something behind it.
func TestReadCut(t *testing.T) {
	for _, c := range []struct {
		s api.Schema
		l []api.Many
	}{
		{schema, example()}, {schema, nil}, {api.Schema{}, nil}, {api.Schema{Dims: 8, Meas: 8}, nil}, {api.Schema{}, []api.Many{many(1, 5, nil)}},
		{api.Schema{Meas: 2}, []api.Many{many(1, 5, nil, 1, 2)}}, {api.Schema{Dims: 2}, []api.Many{many(1, 5, []string{"", "ab"}), many(1, 5, []string{"", "ac"})}},
	} {
		body := plainBody(c.s, plainRows(c.l))
		read(t, framed(body))
		for size := range body {
			expectReadRefused(t, framed(body[:size]), api.ErrForm)
		}
		for _, behind := range []string{"\x00", "\x01", "\x80", "\xff", body} {
			expectReadRefused(t, framed(body+behind), api.ErrForm)
		}
	}
	expectReadRefused(t, framed(""), api.ErrForm)
}

// pieces are the example's body in parts: each number, each text.
func pieces() []string {
	return []string{
		"\x01", "\x01", "\x02", // 0: Dims, Meas, rows
		"\x03", "\x02", // 3: Times
		"\x01", "\x02", // 5: Ns
		text(plainDict("a", "b")), "\x01\x02", // 7: the dictionary, the rows' numbers
		"\x01\x01", "\x01\x02", // 9: the index
		"\x01", "\x0e", // 11: the measure
	}
}

// expectPieces asks that the example's body, with some parts changed, is refused.
func expectPieces(t *testing.T, what string, change func(p []string)) {
	t.Helper()
	p := pieces()
	change(p)
	if g, code := Read(framed(strings.Join(p, ""))); g != nil || code != api.ErrForm {
		t.Errorf("%s: %v, %v", what, g != nil, code)
	}
}

// TestReadNumbers: P10.2, numbers that aren't in their shortest form, that are no numbers, or none of 64 bits.
func TestReadNumbers(t *testing.T) {
	expectAnswers(t, read(t, framed(strings.Join(pieces(), ""))), schema, plainRows(example()))
	for at, whole := range pieces() {
		first := whole[:1]
		for _, number := range []string{
			string([]byte{first[0] + 128, 0}), string([]byte{first[0] + 128, 128, 0}), strings.Repeat("\xff", 9) + "\x02", strings.Repeat("\xff", 10) + "\x01", "\x80\x00",
		} {
			expectPieces(t, fmt.Sprintf("part %d begins with %q", at, number), func(p []string) { p[at] = number + whole[1:] })
		}
	}
}

// TestReadHead: P10.2, Dims, Meas and rows that are others than the columns', or more than may be.
func TestReadHead(t *testing.T) {
	for at := range 3 {
		for _, n := range []uint64{0, 1, 2, 3, 8, 9, 127, 128, api.MaxFacts, api.MaxFacts + 1, 1 << 31, 1 << 32, 1<<63 + 1, most - 1, most} {
			if num(n) != pieces()[at] {
				expectPieces(t, fmt.Sprintf("part %d is %d", at, n), func(p []string) { p[at] = num(n) })
			}
		}
	}
	dims := make([]string, 9)
	for _, l := range [][]api.Many{nil, {many(1, 5, dims, make([]int64, 9)...)}} {
		read(t, framed(plainBody(api.Schema{Dims: 8, Meas: 8}, cutTo(l, 8, 8))))
		expectReadRefused(t, framed(plainBody(api.Schema{Dims: 9, Meas: 8}, cutTo(l, 9, 8))), api.ErrForm)
		expectReadRefused(t, framed(plainBody(api.Schema{Dims: 8, Meas: 9}, cutTo(l, 8, 9))), api.ErrForm)
		expectReadRefused(t, framed(plainBody(api.Schema{Dims: 9}, cutTo(l, 9, 0))), api.ErrForm)
		expectReadRefused(t, framed(plainBody(api.Schema{Meas: 9}, cutTo(l, 0, 9))), api.ErrForm)
	}
	read(t, framed(plainBody(api.Schema{Meas: 1}, counted(api.MaxFacts))))
	expectReadRefused(t, framed(plainBody(api.Schema{Meas: 1}, counted(api.MaxFacts+1))), api.ErrForm)
	expectReadRefused(t, framed(plainBody(api.Schema{Meas: 1}, counted(100000))), api.ErrForm)
}

// cutTo are the facts with so many dimensions and measures alone.
func cutTo(l []api.Many, dims, meas int) []api.Many {
	var out []api.Many
	for _, m := range l {
		out = append(out, many(m.N, m.Fact.Time, m.Fact.Dims[:dims], m.Fact.Meas[:meas]...))
	}
	return out
}

// TestReadRows: P10.2, rows that don't rise or are twice, by their Times, dimensions or measures.
func TestReadRows(t *testing.T) {
	s := api.Schema{Dims: 2, Meas: 2}
	row := func(time int64, a, b string, x, y int64) api.Many { return many(1, time, []string{a, b}, x, y) }
	rising := []api.Many{
		row(1, "z", "z", 9, 9), row(2, "a", "b", 1, 1), row(2, "a", "b", 1, 2), row(2, "a", "b", 2, 0), row(2, "a", "c", 0, 0), row(2, "aa", "", 0, 0), row(2, "b", "a", -1, -1), row(3, "", "", least, least),
	}
	expectAnswers(t, read(t, framed(plainBody(s, rising))), s, rising)
	for at := range rising {
		expectReadRefused(t, framed(plainBody(s, append(rising[:at:at], append([]api.Many{rising[at]}, rising[at:]...)...))), api.ErrForm)
		for other := range at {
			turned := append([]api.Many{}, rising...)
			turned[at], turned[other] = turned[other], turned[at]
			expectReadRefused(t, framed(plainBody(s, turned)), api.ErrForm)
		}
	}
	expectReadRefused(t, framed(plainBody(api.Schema{}, []api.Many{many(1, 5, nil), many(2, 5, nil)})), api.ErrForm)
	read(t, framed(plainBody(api.Schema{}, []api.Many{many(1, 5, nil), many(2, 6, nil)})))
}

// TestReadTimesAndNs: P10.2, an N of 0, a Time too great, Times that turn round.
func TestReadTimesAndNs(t *testing.T) {
	expectPieces(t, "the first N is 0", func(p []string) { p[5] = num(0) })
	expectPieces(t, "the second N is 0", func(p []string) { p[6] = num(0) })
	expectPieces(t, "both Ns are 0", func(p []string) { p[5], p[6] = num(0), num(0) })
	for _, times := range [][2]uint64{
		{api.MaxTime, 1}, {api.MaxTime, 0}, {1, last}, {last, 1}, {3, api.MaxTime}, {1 << 63, 5}, {1 << 63, 1 << 63}, {5, most}, {5, most - 1}, {5, most - 4}, {0, most}, {most, 1}, {most, 6}, {1 << 62, 3 << 62}, {great, great},
	} {
		expectPieces(t, fmt.Sprint("Times ", times), func(p []string) { p[3], p[4] = num(times[0]), num(times[1]) })
	}
	p := pieces()
	p[3], p[4], p[5], p[6] = num(last), num(0), num(most), num(most)
	expectAnswers(t, read(t, framed(strings.Join(p, ""))), schema, []api.Many{one(most, last, "a", -1), one(most, last, "b", 7)})
	expectReadRefused(t, framed(plainBody(api.Schema{}, []api.Many{many(1, api.MaxTime, nil)})), api.ErrForm)
	expectReadRefused(t, framed(plainBody(api.Schema{}, []api.Many{many(0, 5, nil)})), api.ErrForm)
}

// TestReadDictionary: P10.2, a dictionary that is none, that has a text that no row has, or too long a one.
func TestReadDictionary(t *testing.T) {
	for _, b := range []string{
		"", "\x00", "\x02", "\x02\x00\x01a\x00\x01", // none, of none, cut
		"\x02\x00\x01b\x00\x01a", "\x02\x00\x01a\x00\x01a", "\x02\x00\x01a\x01\x00", // falling, twice
		"\x02\x00\x01a\x00\x01b\x00", "\x82\x00\x00\x01a\x00\x01b", "\x02\x00\x01a\x00\x02b", // more behind, a long number, a text cut
		"\x02\x00\x01a\x00\x02ab", "\x02\x01\x01a\x00\x01b", "\x02\x00\x01a\x02\x01b", // what is shared is wrong
		"\x01\x00\x01a", "\x01\x00\x01b", "\x03\x00\x01a\x00\x01b\x00\x01c", // too few, too many
		plainDict("a", strings.Repeat("b", 65)), plainDict(strings.Repeat("a", 65), "b"),
	} {
		expectPieces(t, fmt.Sprintf("dictionary %q", b), func(p []string) { p[7] = text(b) })
	}
	long := strings.Repeat("b", 64)
	p := pieces()
	p[7] = text(plainDict("a", long))
	expectAnswers(t, read(t, framed(strings.Join(p, ""))), schema, []api.Many{one(1, 3, "a", -1), one(2, 5, long, 7)})

	// A text that no row has, with its empty index: ahead of, between, behind the others.
	for _, texts := range [][]string{{"", "a", "b"}, {"a", "aa", "b"}, {"a", "b", "c"}, {"", "a", "b", "c"}} {
		expectPieces(t, fmt.Sprintf("dictionary %q", texts), func(p []string) {
			p[7], p[8], p[9], p[10] = plainDim([]string{"a", "b"}, texts), "", "", ""
		})
	}
	head := "\x01\x00\x00"
	read(t, framed(head+plainDim(nil, nil)))
	expectReadRefused(t, framed(head+plainDim(nil, []string{"a"})), api.ErrForm)
	head = "\x01\x00\x01\x05\x01"
	read(t, framed(head+plainDim([]string{"a"}, []string{"a"})))
	expectReadRefused(t, framed(head+plainDim([]string{"a"}, []string{"a", "b"})), api.ErrForm)
	expectReadRefused(t, framed(head+plainDim([]string{"b"}, []string{"a", "b"})), api.ErrForm)
	expectReadRefused(t, framed(head+"\x01\x00\x00"), api.ErrForm)
}

// TestReadPacked: P10.2, rows' numbers beyond the dictionary, too many or too few bytes, bits behind the last one.
func TestReadPacked(t *testing.T) {
	for _, b := range []string{"", "\x02\x00", "\x00\x02", "\x00", "\x01", "\x03", "\x06", "\x0a", "\x82", "\xff"} {
		expectPieces(t, fmt.Sprintf("packed %q", b), func(p []string) { p[8] = text(b) })
	}
	// Three texts in two bits each: 0, 1, 2 are packed as 36; 3 is beyond them.
	head := "\x01\x00\x03\x01\x01\x01\x01\x01\x01" + text(plainDict("a", "b", "c"))
	index := text("\x01") + text("\x02") + text("\x04")
	read(t, framed(head+text("\x24")+index))
	for _, b := range []string{"\x34", "\x27", "\x2c", "\x3f", "\x64", "\xa4", "\x24\x00", "", "\x00", "\x06"} {
		expectReadRefused(t, framed(head+text(b)+index), api.ErrForm)
		expectReadRefused(t, framed(head+text(b)+text("\x01")+text("\x02")+text("\x00")), api.ErrForm)
	}
	// Also where the text that a number beyond them might be taken for is the empty one.
	head = "\x01\x00\x03\x01\x01\x01\x01\x01\x01" + text(plainDict("", "b", "c"))
	read(t, framed(head+text("\x24")+index))
	expectReadRefused(t, framed(head+text("\x27")+index), api.ErrForm)
	// One text in no bits.
	head = "\x01\x00\x01\x05\x01" + text(plainDict("a"))
	read(t, framed(head+text("")+text("\x01")))
	for _, b := range []string{"\x00", "\x01", "\x00\x00"} {
		expectReadRefused(t, framed(head+text(b)+text("\x01")), api.ErrForm)
	}
}

// TestReadIndex: P10.2, an index that isn't the rows', or is none.
func TestReadIndex(t *testing.T) {
	for _, at := range []int{9, 10} {
		for _, b := range []string{"", "\x00", "\x01", "\x02", "\x03", "\x04", "\x05", "\x06", "\x81", "\xff", "\x01\x00", "\x02\x00", "\x00\x01"} {
			if text(b) != pieces()[at] {
				expectPieces(t, fmt.Sprintf("index %d: %q", at-9, b), func(p []string) { p[at] = text(b) })
			}
		}
	}
	expectPieces(t, "turned", func(p []string) { p[9], p[10] = p[10], p[9] })
	expectPieces(t, "missing", func(p []string) { p[10] = "" })
	expectPieces(t, "one more", func(p []string) { p[10] += text("\x00") })
}

// TestReadColumns: P10.2, columns that stand in another order, or are missing.
func TestReadColumns(t *testing.T) {
	for at := range pieces() {
		expectPieces(t, fmt.Sprintf("part %d is missing", at), func(p []string) { p[at] = "" })
		expectPieces(t, fmt.Sprintf("part %d is twice", at), func(p []string) { p[at] += p[at] })
	}
	// The measure ahead of the dimension.
	expectPieces(t, "turned", func(p []string) { p[7], p[8], p[11], p[12] = p[11]+p[12], "", p[7]+p[8], "" })
}

// TestReadKeepsNothing: rule 3, what is handed in stays as it was, and isn't kept.
func TestReadKeepsNothing(t *testing.T) {
	b := built(t, schema, example())
	was := bytes.Clone(b)
	g := read(t, b)
	if !bytes.Equal(b, was) {
		t.Errorf("changed: %v", b)
	}
	clear(b)
	expectAnswers(t, g, schema, plainRows(example()))
}
