package segment

import (
	"gristmill/api"
	"gristmill/bits"
	"gristmill/dict"
	"gristmill/fact"
	"gristmill/wire"
)

// column is a part of a segment's bytes: how it is written, and how it is read into the segment
// that it was made of. What is read need not be such as is written: Read asks that at the end.
type column struct {
	write func() []byte
	read  func(r *wire.Reader) bool
}

// body is what a segment's frame holds.
func (g *Segment) body() []byte {
	body := wire.Uint(nil, uint64(g.schema.Dims))
	body = wire.Uint(body, uint64(g.schema.Meas))
	body = wire.Uint(body, uint64(g.Rows()))
	for _, c := range g.columns() {
		body = append(body, c.write()...)
	}
	return body
}

// parsed is the segment whose columns a body has; false, where they can't be read.
func parsed(body []byte) (*Segment, bool) {
	r := wire.Read(body)
	s := api.Schema{Dims: int(r.Uint()), Meas: int(r.Uint())}
	rows := r.Uint()
	// Asked ahead of making room for them.
	if fact.Fine(s) != api.OK || rows > api.MaxFacts {
		return nil, false
	}
	g := empty(s, int(rows))
	for _, c := range g.columns() {
		if !c.read(r) {
			return nil, false
		}
	}
	return g, r.End() == api.OK
}

// columns are a segment's, in the order of its bytes.
func (g *Segment) columns() []column {
	l := []column{timeColumn(g.times), numberColumn(g.counts, wire.Uint, (*wire.Reader).Uint)}
	for at := range g.dims {
		l = append(l, dimensionColumn(&g.dims[at], g.Rows()))
	}
	for _, numbers := range g.meas {
		l = append(l, numberColumn(numbers, wire.Int, (*wire.Reader).Int))
	}
	return l
}

// timeColumn is times, each told by how far it is behind the one ahead of it.
func timeColumn(times []int64) column {
	return column{
		write: func() []byte {
			var b []byte
			ahead := int64(0)
			for _, time := range times {
				b = append(b, wire.Uint(nil, uint64(time-ahead))...)
				ahead = time
			}
			return b
		},
		read: func(r *wire.Reader) bool {
			ahead := int64(0)
			for row := range times {
				ahead += int64(r.Uint())
				times[row] = ahead
			}
			return true
		},
	}
}

// numberColumn is numbers, each told by itself.
func numberColumn[T any](numbers []T, put func(b []byte, n T) []byte, next func(r *wire.Reader) T) column {
	return column{
		write: func() []byte {
			var b []byte
			for _, n := range numbers {
				// Appended piece by piece: wire copies what it is handed, each time.
				b = append(b, put(nil, n)...)
			}
			return b
		},
		read: func(r *wire.Reader) bool {
			for row := range numbers {
				numbers[row] = next(r)
			}
			return true
		},
	}
}

// dimensionColumn is a dimension's dictionary, its rows' numbers there, and its index.
func dimensionColumn(d *dimension, rows int) column {
	return column{
		write: func() []byte {
			packed, _ := bits.Pack(d.ids, bits.Width(d.texts.Len()))
			b := append(asText(d.texts.Bytes()), asText(packed)...)
			for _, set := range d.index {
				b = append(b, asText(set.Bytes())...)
			}
			return b
		},
		read: func(r *wire.Reader) bool {
			texts, code := dict.Parse(nextText(r))
			if code != api.OK {
				return false
			}
			ids, code := bits.Unpack(nextText(r), bits.Width(texts.Len()), rows)
			if code != api.OK {
				return false
			}
			index := make([]*bits.Set, texts.Len())
			for id := range index {
				if index[id], code = bits.Parse(nextText(r), rows); code != api.OK {
					return false
				}
			}
			*d = dimension{texts: texts, ids: ids, index: index}
			return true
		},
	}
}

func asText(b []byte) []byte { return wire.Text(nil, string(b)) }

func nextText(r *wire.Reader) []byte { return []byte(r.Text()) }
