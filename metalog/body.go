package metalog

import (
	"gristmill/api"
	"gristmill/wire"
)

// leastOfMeta is how many bytes a meta has at least: one for each of its numbers, and for its text.
const leastOfMeta = 8

// body is a state as bytes: its numbers, the offsets, the metas.
func body(s api.State) []byte {
	b := whole(whole(whole(nil, s.Epoch), s.Term), s.Leader)
	b = wire.Uint(b, uint64(len(s.Offsets)))
	for _, offset := range s.Offsets {
		b = wire.Uint(b, offset)
	}
	b = wire.Uint(b, uint64(len(s.Metas)))
	for _, m := range s.Metas {
		// Each one by itself, so that not all of those ahead of it are copied for each of its numbers.
		b = append(b, bytesOf(m)...)
	}
	return b
}

func bytesOf(m api.Meta) []byte {
	b := wire.Int(wire.Int(nil, m.Seg.Span.From), m.Seg.Span.To)
	b = whole(whole(whole(b, m.Seg.Version), m.Seg.Part), m.Seg.Core)
	b = wire.Text(b, m.Blob)
	return whole(wire.Uint(b, uint64(m.Sum)), m.Rows)
}

func whole(b []byte, n int) []byte { return wire.Int(b, int64(n)) }

// parse is the state of which body makes these bytes.
func parse(b []byte) (api.State, error) {
	r := wire.Read(b)
	s := api.State{Epoch: int(r.Int()), Term: int(r.Int()), Leader: int(r.Int())}
	for range r.Count(1) {
		s.Offsets = append(s.Offsets, r.Uint())
	}
	for range r.Count(leastOfMeta) {
		s.Metas = append(s.Metas, nextMeta(r))
	}
	if r.End() != api.OK {
		return api.State{}, while("reading the state's parts", api.ErrForm)
	}
	return s, nil
}

func nextMeta(r *wire.Reader) api.Meta {
	span := api.Span{From: r.Int(), To: r.Int()}
	return api.Meta{
		Seg:  api.Seg{Span: span, Version: int(r.Int()), Part: int(r.Int()), Core: int(r.Int())},
		Blob: r.Text(),
		Sum:  uint32(r.Uint()),
		Rows: int(r.Int()),
	}
}
