package segment

import (
	"gristmill/api"
	"gristmill/bits"
	"gristmill/dict"
)

// dimension is a dimension's values, row by row, as numbers of its texts.
type dimension struct {
	texts *dict.Dict
	ids   []int
	index []*bits.Set // of each text the rows that have it
}

// laid is the segment of a bag's rows, of which there are not too many, and each of which may be.
func laid(s api.Schema, rows []api.Many) *Segment {
	g := empty(s, 0)
	g.times = picked(rows, func(m api.Many) int64 { return m.Fact.Time })
	g.counts = picked(rows, func(m api.Many) uint64 { return m.N })
	for at := range g.dims {
		g.dims[at] = indexed(picked(rows, func(m api.Many) string { return m.Fact.Dims[at] }))
	}
	for at := range g.meas {
		g.meas[at] = picked(rows, func(m api.Many) int64 { return m.Fact.Meas[at] })
	}
	return g
}

// empty is a segment whose columns have room for so many rows, and whose dimensions have no texts yet.
func empty(s api.Schema, rows int) *Segment {
	g := &Segment{
		schema: s,
		times:  make([]int64, rows),
		counts: make([]uint64, rows),
		dims:   make([]dimension, s.Dims),
		meas:   make([][]int64, s.Meas),
	}
	for at := range g.meas {
		g.meas[at] = make([]int64, rows)
	}
	return g
}

// picked is what the function takes of each row.
func picked[T any](rows []api.Many, of func(api.Many) T) []T {
	out := make([]T, len(rows))
	for row, m := range rows {
		out[row] = of(m)
	}
	return out
}

// indexed is the dimension that has these values. Neither the dictionary nor a set can be refused:
// facts that may be have no longer texts, and a segment no more rows, than they take.
func indexed(values []string) dimension {
	texts, _ := dict.Build(values)
	d := dimension{texts: texts, ids: make([]int, len(values)), index: make([]*bits.Set, texts.Len())}
	for id := range d.index {
		d.index[id] = noRows(len(values))
	}
	for row, value := range values {
		id, _ := texts.Id(value)
		d.ids[row] = id
		d.index[id].Put(row)
	}
	return d
}

// value is a row's text.
func (d *dimension) value(row int) string {
	text, _ := d.texts.Text(d.ids[row])
	return text
}

// noRows is the set without rows, of so many as a segment has.
func noRows(rows int) *bits.Set {
	set, _ := bits.New(rows)
	return set
}
