package wire

import (
	"gristmill/api"
)

// Get is the message of bytes.
func Get(b []byte) (api.Msg, api.Errno) {
	r := Read(b)
	m := api.Msg{}
	parts := []func(){
		func() { m.Kind, m.From, m.To = r.whole(), r.whole(), r.whole() },
		func() { m.Id, m.Ask, m.Offset = r.Uint(), r.Uint(), r.Uint() },
		func() { m.Term = r.whole() },
		func() { m.Count = r.Uint() },
		func() { m.Code = api.Errno(r.whole()) },
		func() { m.Fact = r.fact() },
		func() { m.Query = r.query() },
		func() { m.Piece = r.piece() },
		func() { m.Order = r.order() },
		func() { m.Segs = readList(r, r.seg) },
		func() { m.Groups = readList(r, r.group) },
	}
	for _, read := range parts {
		read()
	}
	if e := r.End(); e != api.OK {
		return api.Msg{}, e
	}
	// Asked last: what is wrong further to the left is told first.
	if len(b) > api.MaxBytes {
		return api.Msg{}, api.ErrForm
	}
	return m, api.OK
}

// readList reads how many items there are, and each of them by one. Its memory grows with what
// was read, not with what the count says.
func readList[T any](r *Reader, one func() T) []T {
	var items []T
	for range r.Count(1) {
		item := one()
		if r.err != api.OK {
			return nil
		}
		items = append(items, item)
	}
	return items
}

func (r *Reader) fact() api.Fact {
	return api.Fact{
		Time: r.Int(),
		Dims: readList(r, r.Text),
		Meas: readList(r, r.Int),
	}
}

func (r *Reader) query() api.Query {
	return api.Query{
		Span:   r.span(),
		Filter: r.filter(1),
		Grain:  r.Int(),
		Sets:   readList(r, func() []int { return readList(r, r.whole) }),
		Aggs:   readList(r, r.agg),
		Groups: r.whole(),
		Rows:   r.whole(),
	}
}

func (r *Reader) span() api.Span {
	return api.Span{From: r.Int(), To: r.Int()}
}

func (r *Reader) filter(depth int) api.Filter {
	if depth > api.MaxDepth {
		r.fail(api.ErrForm)
		return api.Filter{}
	}
	return api.Filter{
		Kind:  r.whole(),
		Dim:   r.whole(),
		Texts: readList(r, r.Text),
		Lo:    r.Int(),
		Hi:    r.Int(),
		Kids:  readList(r, func() api.Filter { return r.filter(depth + 1) }),
	}
}

func (r *Reader) agg() api.Agg {
	return api.Agg{Kind: r.whole(), Col: r.whole()}
}

func (r *Reader) piece() api.Piece {
	return api.Piece{Seg: r.seg(), Span: r.span()}
}

func (r *Reader) seg() api.Seg {
	return api.Seg{
		Span:    r.span(),
		Version: r.whole(),
		Part:    r.whole(),
		Core:    r.whole(),
	}
}

func (r *Reader) order() api.Order {
	return api.Order{Drop: r.yes(), Seg: r.seg(), Node: r.whole()}
}

func (r *Reader) group() api.Group {
	return api.Group{
		Key: api.Key{
			Set:    r.whole(),
			Bucket: r.Int(),
			Dims:   readList(r, r.Text),
		},
		Parts: readList(r, r.partial),
	}
}

func (r *Reader) partial() api.Partial {
	return api.Partial{
		N:     r.Uint(),
		V:     r.Int(),
		Texts: readList(r, r.Text),
	}
}
