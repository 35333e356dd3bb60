package wire

import (
	"gristmill/api"
)

// writer has a message's bytes so far. It stops at the first thing that may not be, so that
// no message, however great or however often its lists hold one another, takes long.
type writer struct {
	b    []byte
	over bool // more bytes, or a deeper filter, than may be
}

// Put is a message's bytes.
func Put(m api.Msg) ([]byte, api.Errno) {
	w := &writer{}
	w.head(m)
	w.fact(m.Fact)
	w.query(m.Query)
	w.piece(m.Piece)
	w.order(m.Order)
	writeList(w, m.Segs, w.seg)
	writeList(w, m.Groups, w.group)
	if w.over {
		return nil, api.ErrArg
	}
	return w.b, api.OK
}

// writeList writes how many items there are, and each of them by one.
func writeList[T any](w *writer, items []T, one func(T)) {
	w.uint(uint64(len(items)))
	for _, item := range items {
		if w.over {
			return
		}
		one(item)
	}
}

func (w *writer) uint(n uint64) {
	if w.over {
		return
	}
	w.b = addUint(w.b, n)
	w.over = len(w.b) > api.MaxBytes
}

func (w *writer) int(n int64) { w.uint(folded(n)) }

func (w *writer) whole(n int) { w.int(int64(n)) }

func (w *writer) text(s string) {
	w.uint(uint64(len(s)))
	if w.over || len(s) > api.MaxBytes-len(w.b) {
		w.over = true
		return
	}
	w.b = append(w.b, s...)
}

func (w *writer) yes(b bool) {
	if b {
		w.uint(1)
		return
	}
	w.uint(0)
}

// head writes the fields of a message that are numbers.
func (w *writer) head(m api.Msg) {
	w.whole(m.Kind)
	w.whole(m.From)
	w.whole(m.To)
	w.uint(m.Id)
	w.uint(m.Ask)
	w.uint(m.Offset)
	w.whole(m.Term)
	w.uint(m.Count)
	w.whole(int(m.Code))
}

func (w *writer) fact(f api.Fact) {
	w.int(f.Time)
	writeList(w, f.Dims, w.text)
	writeList(w, f.Meas, w.int)
}

func (w *writer) query(q api.Query) {
	w.span(q.Span)
	w.filter(q.Filter, 1)
	w.int(q.Grain)
	writeList(w, q.Sets, func(set []int) { writeList(w, set, w.whole) })
	writeList(w, q.Aggs, w.agg)
	w.whole(q.Groups)
	w.whole(q.Rows)
}

func (w *writer) span(s api.Span) {
	w.int(s.From)
	w.int(s.To)
}

func (w *writer) filter(f api.Filter, depth int) {
	if depth > api.MaxDepth {
		w.over = true
		return
	}
	w.whole(f.Kind)
	w.whole(f.Dim)
	writeList(w, f.Texts, w.text)
	w.int(f.Lo)
	w.int(f.Hi)
	writeList(w, f.Kids, func(kid api.Filter) { w.filter(kid, depth+1) })
}

func (w *writer) agg(a api.Agg) {
	w.whole(a.Kind)
	w.whole(a.Col)
}

func (w *writer) piece(p api.Piece) {
	w.seg(p.Seg)
	w.span(p.Span)
}

func (w *writer) seg(s api.Seg) {
	w.span(s.Span)
	w.whole(s.Version)
	w.whole(s.Part)
	w.whole(s.Core)
}

func (w *writer) order(o api.Order) {
	w.yes(o.Drop)
	w.seg(o.Seg)
	w.whole(o.Node)
}

func (w *writer) group(g api.Group) {
	w.whole(g.Key.Set)
	w.int(g.Key.Bucket)
	writeList(w, g.Key.Dims, w.text)
	writeList(w, g.Parts, w.partial)
}

func (w *writer) partial(p api.Partial) {
	w.uint(p.N)
	w.int(p.V)
	writeList(w, p.Texts, w.text)
}
