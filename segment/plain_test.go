package segment

import (
	"cmp"
	"encoding/binary"
	"fmt"
	"hash/crc32"
	"math"
	"slices"
	"sort"
	"strings"
	"testing"

	"gristmill/api"
	"gristmill/bits"
)

const (
	least = math.MinInt64
	great = math.MaxInt64
	most  = math.MaxUint64
	last  = api.MaxTime - 1
)

// many is a fact, so many times.
func many(n uint64, time int64, dims []string, meas ...int64) api.Many {
	return api.Many{Fact: api.Fact{Time: time, Dims: dims, Meas: meas}, N: n}
}

// one is a fact with one dimension and one measure, so many times.
func one(n uint64, time int64, text string, meas int64) api.Many {
	return many(n, time, []string{text}, meas)
}

// num is a number from 0 on as bytes, as chapter 1's words say it.
func num(n uint64) string {
	if n < 128 {
		return string([]byte{byte(n)})
	}
	return string([]byte{byte(n%128 + 128)}) + num(n/128)
}

// signed is a number as bytes.
func signed(n int64) string {
	if n < 0 {
		return num(uint64(-(n+1))*2 + 1)
	}
	return num(uint64(n) * 2)
}

// text is a text as bytes.
func text(s string) string { return num(uint64(len(s))) + s }

// framed is the frame of a body, of any length.
func framed(body string) []byte {
	b := binary.LittleEndian.AppendUint32(nil, uint32(len(body)))
	b = append(b, body...)
	return append(binary.LittleEndian.AppendUint32(nil, crc32.ChecksumIEEE(b)), b...)
}

// plainDict is the bytes of a dictionary of rising texts.
func plainDict(texts ...string) string {
	out := num(uint64(len(texts)))
	ahead := ""
	for _, s := range texts {
		same := 0
		for same < len(s) && same < len(ahead) && s[same] == ahead[same] {
			same++
		}
		out += num(uint64(same)) + text(s[same:])
		ahead = s
	}
	return out
}

// plainBits are bytes with just these bits set, as many bytes as so many bits need.
func plainBits(total int, set func(bit int) bool) string {
	out := make([]byte, (total+7)/8)
	for bit := range total {
		if set(bit) {
			out[bit/8] += 1 << (bit % 8)
		}
	}
	return string(out)
}

// plainDim is a dimension's bytes: of its values, with a dictionary of these texts.
func plainDim(values, texts []string) string {
	width := 0
	for 1<<width < len(texts) {
		width++
	}
	ids := make([]int, len(values))
	for row, value := range values {
		ids[row] = sort.SearchStrings(texts, value)
	}
	out := strings.Builder{}
	out.WriteString(text(plainDict(texts...)))
	out.WriteString(text(plainBits(width*len(values), func(bit int) bool { return ids[bit/width]>>(bit%width)&1 == 1 })))
	for id := range texts {
		out.WriteString(text(plainBits(len(values), func(row int) bool { return ids[row] == id })))
	}
	return out.String()
}

// plainBody is the body that says these rows, just as they are: also of rows that no segment has.
func plainBody(s api.Schema, rows []api.Many) string {
	out := strings.Builder{}
	out.WriteString(num(uint64(s.Dims)) + num(uint64(s.Meas)) + num(uint64(len(rows))))
	ahead := int64(0)
	for _, m := range rows {
		out.WriteString(num(uint64(m.Fact.Time - ahead)))
		ahead = m.Fact.Time
	}
	for _, m := range rows {
		out.WriteString(num(m.N))
	}
	for dim := range s.Dims {
		var values []string
		for _, m := range rows {
			values = append(values, m.Fact.Dims[dim])
		}
		texts := slices.Clone(values)
		slices.Sort(texts)
		out.WriteString(plainDim(values, slices.Compact(texts)))
	}
	for meas := range s.Meas {
		for _, m := range rows {
			out.WriteString(signed(m.Fact.Meas[meas]))
		}
	}
	return out.String()
}

func plainOrder(a, b api.Many) int {
	return cmp.Or(cmp.Compare(a.Fact.Time, b.Fact.Time), slices.Compare(a.Fact.Dims, b.Fact.Dims), slices.Compare(a.Fact.Meas, b.Fact.Meas))
}

// plainRows are the rows of the bag that facts stand for.
func plainRows(l []api.Many) []api.Many {
	var rows []api.Many
	for _, m := range l {
		at := slices.IndexFunc(rows, func(r api.Many) bool { return plainOrder(r, m) == 0 })
		if at < 0 {
			rows = append(rows, m)
			continue
		}
		rows[at].N += m.N
	}
	rows = slices.DeleteFunc(rows, func(m api.Many) bool { return m.N == 0 })
	slices.SortFunc(rows, plainOrder)
	return rows
}

// show tells facts as texts; nil and empty lists are told alike.
func show(l []api.Many) string {
	out := ""
	for _, m := range l {
		out += fmt.Sprintf("%d %q %d x%d\n", m.Fact.Time, m.Fact.Dims, m.Fact.Meas, m.N)
	}
	return out
}

// short is a text whose middle is left out, if it is long.
func short(s string) string {
	if len(s) > 400 {
		return fmt.Sprintf("%q .. %q (%d bytes)", s[:200], s[len(s)-100:], len(s))
	}
	return fmt.Sprintf("%q", s)
}

func built(t *testing.T, s api.Schema, l []api.Many) []byte {
	t.Helper()
	b, code := Build(s, l)
	if code != api.OK {
		t.Fatalf("Build of %+v, %d facts: %v", s, len(l), code)
	}
	return b
}

func read(t *testing.T, b []byte) *Segment {
	t.Helper()
	g, code := Read(b)
	if code != api.OK || g == nil {
		t.Fatalf("Read of %s: %v", short(string(b)), code)
	}
	return g
}

func expectBuildRefused(t *testing.T, s api.Schema, l []api.Many, want api.Errno) {
	t.Helper()
	if b, code := Build(s, l); b != nil || code != want {
		t.Errorf("Build of %+v, %d facts: %d bytes, %v, not %v", s, len(l), len(b), code, want)
	}
}

func expectReadRefused(t *testing.T, b []byte, want api.Errno) {
	t.Helper()
	if g, code := Read(b); g != nil || code != want {
		t.Errorf("Read of %s: %v, %v, not %v", short(string(b)), g != nil, code, want)
	}
}

// expectSegment asks for just the document's bytes of facts, and that they are read as what was written.
func expectSegment(t *testing.T, s api.Schema, l []api.Many) *Segment {
	t.Helper()
	rows := plainRows(l)
	b := built(t, s, l)
	if want := framed(plainBody(s, rows)); string(b) != string(want) {
		t.Fatalf("of\n%s%s, not %s", short(show(rows)), short(string(b)), short(string(want)))
	}
	g := read(t, b)
	expectAnswers(t, g, s, rows)
	return g
}

// expectAnswers asks a segment everything, and holds it against its rows.
func expectAnswers(t *testing.T, g *Segment, s api.Schema, rows []api.Many) {
	t.Helper()
	if g.Schema() != s || g.Rows() != len(rows) || show(g.Facts()) != show(rows) {
		t.Fatalf("%+v, %d rows:\n%snot %+v, %d:\n%s", g.Schema(), g.Rows(), short(show(g.Facts())), s, len(rows), short(show(rows)))
	}
	for row, want := range rows {
		if m, there := g.Row(row); !there || show([]api.Many{m}) != show([]api.Many{want}) {
			t.Fatalf("row %d: %v, %+v, not %+v", row, there, m, want)
		}
	}
	for dim := range s.Dims {
		expectDim(t, g, dim, rows)
	}
	for meas := range s.Meas {
		var want []int64
		for _, m := range rows {
			want = append(want, m.Fact.Meas[meas])
		}
		if got := g.Column(meas); !slices.Equal(got, want) {
			t.Fatalf("column %d: %d, not %d", meas, got, want)
		}
	}
}

// expectDim holds a dimension's dictionary and index against the rows.
func expectDim(t *testing.T, g *Segment, dim int, rows []api.Many) {
	t.Helper()
	have := map[string][]int{}
	texts := []string{}
	for row, m := range rows {
		value := m.Fact.Dims[dim]
		if have[value] == nil {
			texts = append(texts, value)
		}
		have[value] = append(have[value], row)
	}
	slices.Sort(texts)
	d := g.Dict(dim)
	if d == nil || d.Len() != len(texts) {
		t.Fatalf("dimension %d: %d texts, not %d", dim, d.Len(), len(texts))
	}
	for id, want := range texts {
		if got, there := d.Text(id); !there || got != want {
			t.Fatalf("dimension %d, text %d: %v, %q, not %q", dim, id, there, got, want)
		}
		expectRows(t, g, g.Index(dim, id), have[want]...)
	}
	for _, id := range []int{-1, len(texts), math.MinInt, math.MaxInt} {
		if g.Index(dim, id) != nil {
			t.Fatalf("dimension %d: an index of text %d", dim, id)
		}
	}
}

// expectRows asks that a set of the segment's rows has just these.
func expectRows(t *testing.T, g *Segment, set *bits.Set, want ...int) {
	t.Helper()
	if set == nil || set.Rows() != g.Rows() || !slices.Equal(set.List(), want) {
		t.Fatalf("%v, rows %d of %d, not %d of %d", set != nil, set.List(), set.Rows(), want, g.Rows())
	}
}
