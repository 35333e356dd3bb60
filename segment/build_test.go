package segment

import (
	"bytes"
	"fmt"
	"reflect"
	"slices"
	"strings"
	"testing"

	"gristmill/api"
)

var schema = api.Schema{Dims: 1, Meas: 1}

// example are the facts of the document's table.
func example() []api.Many { return []api.Many{one(2, 5, "b", 7), one(1, 3, "a", -1)} }

const exampleBody = "\x01\x01\x02" + "\x03\x02" + "\x01\x02" + "\x07\x02\x00\x01a\x00\x01b" + "\x01\x02" + "\x01\x01" + "\x01\x02" + "\x01\x0e"

// counted are so many unlike facts of the schema without dimensions, with one measure.
func counted(total int) []api.Many {
	l := make([]api.Many, total)
	for at := range l {
		l[at] = many(1, int64(at), nil, int64(at))
	}
	return l
}

// TestExample: P10.1, P10.2, P10.3, the document's table.
func TestExample(t *testing.T) {
	b := built(t, schema, example())
	if string(b) != string(framed(exampleBody)) {
		t.Errorf("%v, not %v", b, framed(exampleBody))
	}
	g := expectSegment(t, schema, example())
	if g.Rows() != 2 || !slices.Equal(g.Column(0), []int64{-1, 7}) {
		t.Errorf("%d rows, %d", g.Rows(), g.Column(0))
	}
	expectRows(t, g, g.Index(0, 1), 1)
}

// TestBuildSchema: P10.1, fact.Fine's error, also where a fact may not be, or there are too many.
func TestBuildSchema(t *testing.T) {
	for _, s := range []api.Schema{{Dims: -1}, {Meas: -1}, {Dims: 9}, {Meas: 9}, {Dims: 9, Meas: 9}, {Dims: least, Meas: 1}, {Dims: 1, Meas: great}, {Dims: great, Meas: least}} {
		for _, l := range [][]api.Many{nil, {}, example(), {{}}, {many(1, -1, nil)}, {many(0, least, []string{strings.Repeat("x", 65)})}, counted(api.MaxFacts + 1), {many(1, 1, make([]string, 9), make([]int64, 9)...)}} {
			expectBuildRefused(t, s, l, api.ErrArg)
		}
	}
}

// TestBuildFact: P10.1, ErrFact for a fact that fact.Check refuses, first, in the middle, last, with N 0, ahead of too many rows.
func TestBuildFact(t *testing.T) {
	long := strings.Repeat("x", api.MaxText+1)
	for _, f := range []api.Fact{
		{}, {Dims: []string{"a"}}, {Meas: []int64{1}}, {Dims: []string{"a", "b"}, Meas: []int64{1}}, {Dims: []string{"a"}, Meas: []int64{1, 2}},
		{Dims: []string{long}, Meas: []int64{1}},
		{Time: -1, Dims: []string{"a"}, Meas: []int64{1}}, {Time: least, Dims: []string{"a"}, Meas: []int64{1}},
		{Time: api.MaxTime, Dims: []string{"a"}, Meas: []int64{1}}, {Time: great, Dims: []string{"a"}, Meas: []int64{1}},
	} {
		for _, n := range []uint64{0, 1, most} {
			wrong := api.Many{Fact: f, N: n}
			fine := example()
			for _, l := range [][]api.Many{{wrong}, {wrong, fine[0], fine[1]}, {fine[0], wrong, fine[1]}, {fine[0], fine[1], wrong}, {wrong, wrong}} {
				expectBuildRefused(t, schema, l, api.ErrFact)
			}
		}
	}
	none := api.Schema{Meas: 1}
	for _, wrong := range []api.Many{many(1, -1, nil, 1), many(0, 5, []string{"a"}, 1), many(1, 5, nil)} {
		expectBuildRefused(t, none, append(counted(api.MaxFacts+1), wrong), api.ErrFact)
		expectBuildRefused(t, none, append([]api.Many{wrong}, counted(api.MaxFacts+1)...), api.ErrFact)
	}
	expectBuildRefused(t, api.Schema{}, []api.Many{many(1, 5, []string{""})}, api.ErrFact)
	expectBuildRefused(t, api.Schema{}, []api.Many{many(1, 5, nil, 0)}, api.ErrFact)
}

// TestBuildNone: P10.1, no facts, and facts with N 0 alone, of some schemas.
func TestBuildNone(t *testing.T) {
	for _, c := range []struct {
		s    api.Schema
		none api.Many
		body string
	}{
		{api.Schema{}, many(0, 5, nil), "\x00\x00\x00"},
		{api.Schema{Meas: 2}, many(0, 5, nil, 1, 2), "\x00\x02\x00"},
		{api.Schema{Dims: 1}, many(0, 5, []string{"a"}), "\x01\x00\x00\x01\x00\x00"},
		{api.Schema{Dims: 2, Meas: 1}, many(0, 5, []string{"a", "b"}, 1), "\x02\x01\x00\x01\x00\x00\x01\x00\x00"},
	} {
		turned := c.none
		turned.N = most
		back := c.none
		back.N = 1
		for _, l := range [][]api.Many{nil, {}, {c.none}, {c.none, c.none}, {turned, c.none, back}} {
			if b := built(t, c.s, l); string(b) != string(framed(c.body)) {
				t.Errorf("%+v, %d facts: %v, not %v", c.s, len(l), b, framed(c.body))
			}
			g := expectSegment(t, c.s, l)
			if len(g.Facts()) != 0 || g.Within(api.Span{To: api.MaxTime}).Rows() != 0 {
				t.Errorf("%v", g.Facts())
			}
		}
	}
}

// TestBuildRows: P10.1, alike facts apart and together, some of them 0 times, in any order.
func TestBuildRows(t *testing.T) {
	want := string(framed(exampleBody))
	for _, l := range [][]api.Many{
		{one(1, 3, "a", -1), one(2, 5, "b", 7)},
		{one(1, 5, "b", 7), one(1, 3, "a", -1), one(1, 5, "b", 7)},
		{one(1, 3, "a", -1), one(1, 5, "b", 7), one(1, 5, "b", 7)},
		{one(0, 1, "c", 0), one(2, 5, "b", 7), one(0, 5, "b", 7), one(0, 3, "a", -1), one(1, 3, "a", -1), one(0, 9, "", 9)},
		{one(1, 4, "c", 0), one(most, 5, "b", 7), one(3, 5, "b", 7), one(1, 3, "a", -1), one(most, 4, "c", 0)},
	} {
		if b := built(t, schema, l); string(b) != want {
			t.Errorf("of\n%s%q, not %q", show(l), b, want)
		}
		expectSegment(t, schema, l)
	}
}

// TestBuildSchemas: P10.1, P10.3, a schema without dimensions, without measures, with neither, with the most of both.
func TestBuildSchemas(t *testing.T) {
	expectSegment(t, api.Schema{}, []api.Many{many(3, 5, nil), many(1, 0, nil), many(2, 5, nil)})
	expectSegment(t, api.Schema{Meas: 2}, []api.Many{many(3, 5, nil, 1, 2), many(1, 5, nil, 1, -2), many(2, 4, nil, 9, 9)})
	expectSegment(t, api.Schema{Dims: 2}, []api.Many{many(3, 5, []string{"b", "a"}), many(1, 5, []string{"a", "b"}), many(2, 4, []string{"b", ""})})
	var l []api.Many
	for at := range 20 {
		m := many(uint64(at+1), int64(at/3), nil)
		for column := range 8 {
			m.Fact.Dims = append(m.Fact.Dims, fmt.Sprint(at*(column+1)%7))
			m.Fact.Meas = append(m.Fact.Meas, int64(at*(column-4)))
		}
		l = append(l, m)
	}
	expectSegment(t, api.Schema{Dims: 8, Meas: 8}, l)
}

// TestBuildEnds: P10.1, P10.4, Times, Ns, texts and measures at their ends.
func TestBuildEnds(t *testing.T) {
	long := strings.Repeat("\xff", api.MaxText)
	texts := []string{"", "\x00", "a", "ab", "é", "\xff", long, long[1:], long[1:] + "\x00", strings.Repeat("\x00", api.MaxText)}
	numbers := []int64{least, least + 1, -65, -64, -1, 0, 1, 63, 64, 1 << 40, great - 1, great}
	expectSegment(t, schema, []api.Many{one(most, last, long, great)})
	expectSegment(t, schema, []api.Many{one(1, 0, "", least)})
	var l []api.Many
	for at, time := range []int64{0, 0, 1, 127, 128, 1 << 20, 1 << 39, last - 1, last, last} {
		for k, n := range []uint64{1, 127, 128, 1 << 32, most - 1, most} {
			l = append(l, one(n, time, texts[(at+k)%len(texts)], numbers[(at*7+k)%len(numbers)]))
		}
	}
	expectSegment(t, schema, l)
	for _, text := range texts {
		expectSegment(t, schema, []api.Many{one(1, 5, text, 0)})
		for _, n := range numbers {
			expectSegment(t, schema, []api.Many{one(1, 5, text, n), one(1, 5, "m", n), one(1, 5, text, 5)})
		}
	}
}

// TestBuildDictionaries: P10.1, dictionaries of one text, two, three, just a power of 2, one more, one fewer.
func TestBuildDictionaries(t *testing.T) {
	for _, total := range []int{1, 2, 3, 4, 5, 7, 8, 9, 15, 16, 17, 31, 32, 33, 63, 64, 65, 127, 128, 129, 255, 256, 257} {
		for _, rows := range []int{total, total + 1, total + 5} {
			var l []api.Many
			for row := range rows {
				l = append(l, one(1, int64(row/2), fmt.Sprintf("t%d", row*5%total), int64(row)))
			}
			expectSegment(t, schema, l)
		}
	}
}

// TestBuildMaxFacts: P10.1, just MaxFacts rows and one more, more facts than that of which fewer are unlike, or of which some are none.
func TestBuildMaxFacts(t *testing.T) {
	s := api.Schema{Meas: 1}
	just := counted(api.MaxFacts)
	expectSegment(t, s, just)
	over := counted(api.MaxFacts + 1)
	expectBuildRefused(t, s, over, api.ErrArg)
	slices.Reverse(over)
	expectBuildRefused(t, s, over, api.ErrArg)
	expectBuildRefused(t, s, counted(3*api.MaxFacts), api.ErrArg)

	twice := slices.Concat(just, just)
	if b := built(t, s, twice); read(t, b).Rows() != api.MaxFacts {
		t.Error("alike facts count twice")
	}
	over[7].N = 0
	if b := built(t, s, over); read(t, b).Rows() != api.MaxFacts {
		t.Error("a fact that is there 0 times counts")
	}
	over[7].N = most
	again := over[7]
	again.N = 1
	if b := built(t, s, append(over, again)); read(t, b).Rows() != api.MaxFacts {
		t.Error("a fact that is there 2^64 times counts")
	}
	alike := make([]api.Many, 50000)
	for at := range alike {
		alike[at] = many(2, int64(at%3), nil, 1)
	}
	expectAnswers(t, read(t, built(t, s, alike)), s, []api.Many{many(33334, 0, nil, 1), many(33334, 1, nil, 1), many(33332, 2, nil, 1)})

	// As many unlike texts as there may be rows.
	var texts []api.Many
	for at := range api.MaxFacts / 2 {
		texts = append(texts, many(1, 5, []string{fmt.Sprintf("%04d", at)}))
	}
	expectSegment(t, api.Schema{Dims: 1}, texts)
}

// wide are facts whose body has just so many bytes: rows with one dimension of some texts, and
// measures, of which as many take two bytes as are needed.
func wide(t *testing.T, s api.Schema, size int) []api.Many {
	t.Helper()
	l := make([]api.Many, api.MaxFacts)
	for at := range l {
		l[at] = many(1, int64(at), []string{fmt.Sprintf("%04d", at%1950)}, make([]int64, s.Meas)...)
	}
	need := size - len(plainBody(s, l))
	if need < 0 || need > s.Meas*len(l) {
		t.Fatalf("%d bytes can't be filled", need)
	}
	for at := range need {
		l[at/s.Meas].Fact.Meas[at%s.Meas] = 64
	}
	if got := len(plainBody(s, l)); got != size {
		t.Fatalf("%d bytes, not %d", got, size)
	}
	return l
}

// TestBuildMaxBytes: P10.1, a body of just MaxBytes bytes, of one more, and of many more.
func TestBuildMaxBytes(t *testing.T) {
	s := api.Schema{Dims: 1, Meas: 5}
	l := wide(t, s, api.MaxBytes)
	b := built(t, s, l)
	if want := framed(plainBody(s, l)); !bytes.Equal(b, want) || len(b) != api.MaxBytes+8 {
		t.Errorf("%d bytes, not %d", len(b), len(want))
	}
	if !reflect.DeepEqual(read(t, b).Facts(), l) {
		t.Error("other facts")
	}
	expectBuildRefused(t, s, wide(t, s, api.MaxBytes+1), api.ErrArg)
	expectSegment(t, s, wide(t, s, api.MaxBytes-1))

	most := make([]api.Many, api.MaxFacts)
	for at := range most {
		text := fmt.Sprintf("%064d", at)
		most[at] = many(1, int64(at), []string{text, text, text, text, text, text, text, text}, make([]int64, 8)...)
	}
	expectBuildRefused(t, api.Schema{Dims: 8, Meas: 8}, most, api.ErrArg)
}

// TestBuildKeepsNothing: rule 3, what is handed in stays as it was and isn't kept; the bytes are new memory each time.
func TestBuildKeepsNothing(t *testing.T) {
	l := []api.Many{one(1, 5, "b", 7), one(0, 9, "z", 9), one(1, 3, "a", -1), one(1, 5, "b", 7)}
	b := built(t, schema, l)
	if !reflect.DeepEqual(l, []api.Many{one(1, 5, "b", 7), one(0, 9, "z", 9), one(1, 3, "a", -1), one(1, 5, "b", 7)}) {
		t.Errorf("changed: %+v", l)
	}
	for at := range l {
		l[at].Fact.Dims[0], l[at].Fact.Meas[0], l[at].N = "y", 44, 44
	}
	if string(b) != string(framed(exampleBody)) {
		t.Error("the bytes change with the facts")
	}
	clear(b)
	if string(built(t, schema, example())) != string(framed(exampleBody)) {
		t.Error("the bytes of another call are the same memory")
	}
}
