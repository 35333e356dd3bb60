package engine

import (
	"gristmill/api"
	"gristmill/bits"
	"gristmill/dict"
	"gristmill/segment"
)

// rowsOf are the rows of a segment of which a filter holds that may be by its schema.
func rowsOf(g *segment.Segment, f api.Filter) *bits.Set {
	switch f.Kind {
	case api.FilterNot:
		return rowsOf(g, f.Kids[0]).Not()
	case api.FilterAll:
		// It holds as FilterAnd without Kids does; those that it brings aren't looked at.
		f.Kids = nil
		fallthrough
	case api.FilterAnd:
		return rowsOfAll(g, f.Kids)
	case api.FilterOr:
		return rowsOfAny(g, f.Kids)
	case api.FilterRange, api.FilterBegin:
		// It holds as FilterIs does of those texts of the dictionary that it takes.
		f.Texts = textsOf(g.Dict(f.Dim), f)
		fallthrough
	case api.FilterIs:
		return rowsThatHave(g, f.Dim, f.Texts)
	}
	return rowsFromTo(g, f.Dim, f.Lo, f.Hi)
}

// rowsOfAll are the rows of which all filters hold.
func rowsOfAll(g *segment.Segment, filters []api.Filter) *bits.Set {
	rows := noRows(g).Not()
	for _, f := range filters {
		rows = both(rows, rowsOf(g, f))
	}
	return rows
}

// rowsOfAny are the rows of which one of the filters holds.
func rowsOfAny(g *segment.Segment, filters []api.Filter) *bits.Set {
	rows := noRows(g)
	for _, f := range filters {
		rows = either(rows, rowsOf(g, f))
	}
	return rows
}

// textsOf are the texts of a dictionary that FilterRange or FilterBegin takes: they rise there, so they stand side by side.
func textsOf(d *dict.Dict, f api.Filter) []string {
	// The first text that begins so is also the first one that isn't below it, so both begin at lo.
	lo, hi := d.Begin(f.Texts[0])
	if f.Kind == api.FilterRange {
		hi = d.From(f.Texts[1])
	}
	var texts []string
	for id := lo; id < hi; id++ {
		text, _ := d.Text(id)
		texts = append(texts, text)
	}
	return texts
}

// rowsThatHave are the rows whose dimension is one of the texts.
func rowsThatHave(g *segment.Segment, dim int, texts []string) *bits.Set {
	rows := noRows(g)
	for _, text := range texts {
		if id, there := g.Dict(dim).Id(text); there {
			rows = either(rows, g.Index(dim, id))
		}
	}
	return rows
}

// rowsFromTo are the rows whose measure is at least lo and at most hi.
func rowsFromTo(g *segment.Segment, meas int, lo, hi int64) *bits.Set {
	rows := noRows(g)
	for row, value := range g.Column(meas) {
		if lo <= value && value <= hi {
			rows.Put(row)
		}
	}
	return rows
}

// noRows is the empty set of a segment's rows, which are never too many for one.
func noRows(g *segment.Segment) *bits.Set {
	rows, _ := bits.New(g.Rows())
	return rows
}

// both are the rows that are in both of two sets of one segment's rows.
func both(a, b *bits.Set) *bits.Set {
	rows, _ := a.And(b)
	return rows
}

// either are the rows that are in one of two sets of one segment's rows.
func either(a, b *bits.Set) *bits.Set {
	rows, _ := a.Or(b)
	return rows
}
