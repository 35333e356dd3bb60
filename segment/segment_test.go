package segment

import (
	"math"
	"testing"

	"gristmill/api"
)

// some is a segment of five rows, at the Times 0, 3, 3, 7 and the greatest one.
func some(t *testing.T) (*Segment, api.Schema, []api.Many) {
	t.Helper()
	s := api.Schema{Dims: 2, Meas: 3}
	rows := []api.Many{
		many(1, 0, []string{"a", "x"}, 1, 2, 3),
		many(2, 3, []string{"a", "y"}, 4, 5, 6),
		many(3, 3, []string{"b", "x"}, 7, 8, 9),
		many(4, 7, []string{"", "x"}, -1, -2, -3),
		many(5, last, []string{"b", "x"}, least, great, 0),
	}
	return read(t, built(t, s, rows)), s, rows
}

// TestNil: P10.3, each call of a nil segment: nothing.
func TestNil(t *testing.T) {
	var g *Segment
	if g.Schema() != (api.Schema{}) || g.Rows() != 0 || len(g.Facts()) != 0 {
		t.Errorf("%+v, %d, %v", g.Schema(), g.Rows(), g.Facts())
	}
	for _, at := range []int{-1, 0, 1, math.MinInt, math.MaxInt} {
		if m, there := g.Row(at); there || m.N != 0 || m.Fact.Time != 0 || m.Fact.Dims != nil || m.Fact.Meas != nil {
			t.Errorf("row %d: %+v, %v", at, m, there)
		}
		if g.Dict(at) != nil || g.Index(at, 0) != nil || g.Index(0, at) != nil || g.Column(at) != nil {
			t.Errorf("%d: %v, %v, %v, %v", at, g.Dict(at), g.Index(at, 0), g.Index(0, at), g.Column(at))
		}
	}
	for _, s := range []api.Span{{}, {From: 0, To: api.MaxTime}, {From: least, To: great}} {
		if g.Within(s) != nil {
			t.Errorf("%+v: %v", s, g.Within(s))
		}
	}
}

// TestTells: P10.3, everything that a segment tells.
func TestTells(t *testing.T) {
	g, s, rows := some(t)
	expectAnswers(t, g, s, rows)
	expectRows(t, g, g.Index(0, 0), 3)
	expectRows(t, g, g.Index(0, 1), 0, 1)
	expectRows(t, g, g.Index(0, 2), 2, 4)
	expectRows(t, g, g.Index(1, 0), 0, 2, 3, 4)
	expectRows(t, g, g.Index(1, 1), 1)
}

// TestRow: P10.3, rows of -1, 0, the last one, one behind it.
func TestRow(t *testing.T) {
	g, _, rows := some(t)
	for _, row := range []int{0, 4} {
		if m, there := g.Row(row); !there || show([]api.Many{m}) != show(rows[row:row+1]) {
			t.Errorf("row %d: %+v, %v", row, m, there)
		}
	}
	for _, row := range []int{-1, 5, 6, math.MinInt, math.MaxInt} {
		if m, there := g.Row(row); there || m.N != 0 || m.Fact.Time != 0 || m.Fact.Dims != nil || m.Fact.Meas != nil {
			t.Errorf("row %d: %+v, %v", row, m, there)
		}
	}
}

// TestWithin: P10.3, an empty span, one that begins or ends at a row's Time, all.
func TestWithin(t *testing.T) {
	g, _, _ := some(t)
	for _, c := range []struct {
		from, to int64
		rows     []int
	}{
		{0, 0, nil}, {3, 3, nil}, {7, 3, nil}, {great, least, nil}, {4, 7, nil}, {8, last, nil}, {-5, 0, nil}, {api.MaxTime, great, nil},
		{0, 1, []int{0}}, {0, 3, []int{0}}, {0, 4, []int{0, 1, 2}}, {1, 3, nil}, {1, 4, []int{1, 2}}, {3, 4, []int{1, 2}}, {3, 7, []int{1, 2}}, {3, 8, []int{1, 2, 3}},
		{4, 8, []int{3}}, {7, 8, []int{3}}, {7, last, []int{3}}, {7, api.MaxTime, []int{3, 4}}, {8, api.MaxTime, []int{4}}, {last, api.MaxTime, []int{4}}, {last, last, nil},
		{0, api.MaxTime, []int{0, 1, 2, 3, 4}}, {least, great, []int{0, 1, 2, 3, 4}}, {least, 3, []int{0}}, {3, great, []int{1, 2, 3, 4}}, {-1, last, []int{0, 1, 2, 3}},
	} {
		expectRows(t, g, g.Within(api.Span{From: c.from, To: c.to}), c.rows...)
	}
}

// TestNoSuch: P10.3, dimensions, texts and measures of -1, the last one, one behind it.
func TestNoSuch(t *testing.T) {
	g, _, _ := some(t)
	for _, dim := range []int{-1, 2, 3, math.MinInt, math.MaxInt} {
		if g.Dict(dim) != nil || g.Index(dim, 0) != nil || g.Index(dim, -1) != nil {
			t.Errorf("dimension %d: %v, %v", dim, g.Dict(dim), g.Index(dim, 0))
		}
	}
	for _, id := range []int{-1, 3, 4, math.MinInt, math.MaxInt} {
		if g.Index(0, id) != nil {
			t.Errorf("text %d: %v", id, g.Index(0, id).List())
		}
	}
	if g.Index(0, 2) == nil || g.Index(1, 1) == nil || g.Index(1, 2) != nil {
		t.Error("the dimensions' texts are taken for each other's")
	}
	for _, meas := range []int{-1, 3, 4, math.MinInt, math.MaxInt} {
		if g.Column(meas) != nil {
			t.Errorf("measure %d: %d", meas, g.Column(meas))
		}
	}
	if g.Dict(1) == nil || g.Dict(1).Len() != 2 || len(g.Column(2)) != 5 {
		t.Errorf("%d, %d", g.Dict(1).Len(), g.Column(2))
	}
	none := read(t, built(t, api.Schema{}, []api.Many{many(1, 5, nil)}))
	if none.Dict(0) != nil || none.Index(0, 0) != nil || none.Column(0) != nil {
		t.Error("a column of a schema that has none")
	}
	bare := read(t, built(t, schema, nil))
	if bare.Dict(0) == nil || bare.Dict(0).Len() != 0 || bare.Index(0, 0) != nil || len(bare.Column(0)) != 0 {
		t.Error("of no rows")
	}
	if _, there := bare.Row(0); there {
		t.Error("a row of no rows")
	}
}

// TestNew: P10.3, rule 3: whoever writes into an answer changes nothing else.
func TestNew(t *testing.T) {
	g, s, rows := some(t)
	facts := g.Facts()
	for at := range facts {
		for dim := range facts[at].Fact.Dims {
			facts[at].Fact.Dims[dim] = "changed"
			_ = append(facts[at].Fact.Dims[:dim], "changed")
		}
		for meas := range facts[at].Fact.Meas {
			facts[at].Fact.Meas[meas] = 77
		}
		_, _ = append(facts[at].Fact.Dims, "behind"), append(facts[at].Fact.Meas, 77)
		if other := facts[(at+1)%len(facts)]; at+1 < len(facts) && other.Fact.Dims[0] == "changed" {
			t.Error("two facts share their lists")
		}
		facts[at].N, facts[at].Fact.Time = 77, 77
	}
	expectAnswers(t, g, s, rows)
	m, _ := g.Row(1)
	m.Fact.Dims[0], m.Fact.Meas[0] = "changed", 77
	for meas := range s.Meas {
		column := g.Column(meas)
		clear(column)
		_ = append(column, 77)
	}
	for dim := range s.Dims {
		for id := range g.Dict(dim).Len() {
			set := g.Index(dim, id)
			for row := range g.Rows() {
				set.Put(row)
			}
		}
	}
	within := g.Within(api.Span{From: 3, To: 4})
	within.Put(0)
	expectRows(t, g, g.Within(api.Span{From: 3, To: 4}), 1, 2)
	expectAnswers(t, g, s, rows)
}
