package grain

import (
	"slices"
	"testing"

	"gristmill/api"
)

// plainRow is the row of the moments that a function takes, as few spans as may be: the moments between two neighbours of corners are taken alike.
func plainRow(corners []int64, takes func(int64) bool) []api.Span {
	slices.Sort(corners)
	corners = slices.Compact(corners)
	out := []api.Span{}
	open := false
	for i := 0; i+1 < len(corners); i++ {
		taken := takes(corners[i])
		switch {
		case taken && open:
			out[len(out)-1].To = corners[i+1]
		case taken:
			out = append(out, span(corners[i], corners[i+1]))
		}
		open = taken
	}
	return out
}

func plainCorners(l []api.Span) []int64 {
	out := []int64{}
	for _, s := range l {
		out = append(out, s.From, s.To)
	}
	return out
}

func plainSome(l []api.Span, m int64) bool {
	return slices.ContainsFunc(l, func(s api.Span) bool { return s.From <= m && m < s.To })
}

func plainUnion(l []api.Span) []api.Span {
	return plainRow(plainCorners(l), func(m int64) bool { return plainSome(l, m) })
}

func plainMinus(s api.Span, l []api.Span) []api.Span {
	corners := append(plainCorners(l), s.From, s.To)
	return plainRow(corners, func(m int64) bool { return plainSome([]api.Span{s}, m) && !plainSome(l, m) })
}

// thrownSpan is an empty one at times; its ends are often those of others.
func thrownSpan(thrown *stream) api.Span {
	switch thrown.below(4) {
	case 0:
		return span(ends[thrown.below(len(ends))], ends[thrown.below(len(ends))])
	case 1:
		return span(thrownMoment(thrown), thrownMoment(thrown))
	}
	from := int64(thrown.below(24))
	return span(from, from+int64(thrown.below(7))-1)
}

func thrownRow(thrown *stream) []api.Span {
	out := []api.Span{}
	for range thrown.below(9) {
		out = append(out, thrownSpan(thrown))
	}
	return out
}

// nearRow has short spans near one place, the ends of the numbers among them, so that many touch.
func nearRow(thrown *stream, at int64) []api.Span {
	out := []api.Span{}
	for range thrown.below(7) {
		from := at + int64(thrown.below(16))
		out = append(out, span(from, min(from+int64(thrown.below(5)), at+16)))
	}
	return out
}

// eachOrder calls with the items of a row in all orders.
func eachOrder(l []api.Span, call func([]api.Span)) {
	if len(l) == 0 {
		call(nil)
		return
	}
	for i := range l {
		rest := slices.Delete(slices.Clone(l), i, i+1)
		eachOrder(rest, func(tail []api.Span) {
			call(append([]api.Span{l[i]}, tail...))
		})
	}
}

// TestUnion: P7.4, empty ones, the same one twice, spans that touch, overlap, lie within others, in any order.
func TestUnion(t *testing.T) {
	cases := []struct{ l, want []api.Span }{
		{nil, nil},
		{[]api.Span{}, nil},
		{[]api.Span{{From: 0, To: 0}}, nil},
		{[]api.Span{{From: 5, To: 5}, {From: 9, To: 3}, {From: great, To: least}}, nil},
		{[]api.Span{{From: 1, To: 3}}, []api.Span{{From: 1, To: 3}}},
		{[]api.Span{{From: 1, To: 3}, {From: 1, To: 3}}, []api.Span{{From: 1, To: 3}}},
		{[]api.Span{{From: 1, To: 3}, {From: 3, To: 6}, {From: 6, To: 7}}, []api.Span{{From: 1, To: 7}}},
		{[]api.Span{{From: 1, To: 3}, {From: 4, To: 6}}, []api.Span{{From: 1, To: 3}, {From: 4, To: 6}}},
		{[]api.Span{{From: 1, To: 5}, {From: 4, To: 8}}, []api.Span{{From: 1, To: 8}}},
		{[]api.Span{{From: 1, To: 9}, {From: 3, To: 5}}, []api.Span{{From: 1, To: 9}}},
		{[]api.Span{{From: 1, To: 9}, {From: 1, To: 5}, {From: 5, To: 9}}, []api.Span{{From: 1, To: 9}}},
		{[]api.Span{{From: 1, To: 9}, {From: 2, To: 3}, {From: 4, To: 5}, {From: 9, To: 10}}, []api.Span{{From: 1, To: 10}}},
		{[]api.Span{{From: 1, To: 3}, {From: 3, To: 3}, {From: 4, To: 6}}, []api.Span{{From: 1, To: 3}, {From: 4, To: 6}}},
		{[]api.Span{{From: 1, To: 3}, {From: 4, To: 2}, {From: 5, To: 6}}, []api.Span{{From: 1, To: 3}, {From: 5, To: 6}}},
		{[]api.Span{{From: least, To: 0}, {From: 0, To: great}}, []api.Span{{From: least, To: great}}},
		{[]api.Span{{From: least, To: -1}, {From: 0, To: great}}, []api.Span{{From: least, To: -1}, {From: 0, To: great}}},
		{[]api.Span{{From: least, To: least + 1}, {From: great - 1, To: great}, {From: least, To: least}}, []api.Span{{From: least, To: least + 1}, {From: great - 1, To: great}}},
	}
	for _, c := range cases {
		eachOrder(c.l, func(l []api.Span) {
			if got := Union(l); !slices.Equal(got, c.want) {
				t.Error(l, got, c.want)
			}
		})
	}
	thrown := stream(741)
	for range 20000 {
		l := thrownRow(&thrown)
		if got := Union(l); !slices.Equal(got, plainUnion(l)) {
			t.Fatal(l, got, plainUnion(l))
		}
	}
	for i, at := range []int64{least, -8, great - 16} {
		thrown := stream(742 + i)
		for range 5000 {
			l := nearRow(&thrown, at)
			if got := Union(l); !slices.Equal(got, plainUnion(l)) {
				t.Fatal(l, got, plainUnion(l))
			}
		}
	}
}

// TestUnionLong: P7.4, a row longer than what a sort does by hand.
func TestUnionLong(t *testing.T) {
	thrown := stream(744)
	l := []api.Span{}
	for range 3000 {
		from := int64(thrown.below(20000)) - 10000
		l = append(l, span(from, from+int64(thrown.below(12))-2))
	}
	if got := Union(l); !slices.Equal(got, plainUnion(l)) {
		t.Error(len(got), len(plainUnion(l)))
	}
	if got := Minus(span(-9000, 9000), l); !slices.Equal(got, plainMinus(span(-9000, 9000), l)) {
		t.Error(len(got))
	}
}

// TestMinus: P7.4, what takes nothing, the beginning, the end, the middle, all of it, in any order.
func TestMinus(t *testing.T) {
	whole := []api.Span{{From: 0, To: 10}}
	cases := []struct {
		s       api.Span
		l, want []api.Span
	}{
		{span(0, 0), nil, nil},
		{span(5, 3), nil, nil},
		{span(5, 3), []api.Span{{From: 0, To: 1}, {From: 4, To: 9}}, nil},
		{span(5, 5), []api.Span{{From: 7, To: 9}}, nil},
		{span(great, least), []api.Span{{From: -5, To: 5}}, nil},
		{span(0, 10), nil, whole},
		{span(0, 10), []api.Span{}, whole},
		{span(0, 10), []api.Span{{From: 5, To: 5}}, whole},
		{span(0, 10), []api.Span{{From: 7, To: 3}, {From: 10, To: 0}}, whole},
		{span(0, 10), []api.Span{{From: -5, To: 0}, {From: 10, To: 15}}, whole},
		{span(0, 10), []api.Span{{From: -5, To: -2}, {From: 12, To: 15}, {From: 20, To: 30}}, whole},
		{span(0, 10), []api.Span{{From: -5, To: 1}}, []api.Span{{From: 1, To: 10}}},
		{span(0, 10), []api.Span{{From: 0, To: 4}}, []api.Span{{From: 4, To: 10}}},
		{span(0, 10), []api.Span{{From: 9, To: 15}}, []api.Span{{From: 0, To: 9}}},
		{span(0, 10), []api.Span{{From: 6, To: 10}}, []api.Span{{From: 0, To: 6}}},
		{span(0, 10), []api.Span{{From: 4, To: 6}}, []api.Span{{From: 0, To: 4}, {From: 6, To: 10}}},
		{span(0, 10), []api.Span{{From: 4, To: 5}, {From: 5, To: 6}, {From: 8, To: 9}}, []api.Span{{From: 0, To: 4}, {From: 6, To: 8}, {From: 9, To: 10}}},
		{span(0, 10), []api.Span{{From: 0, To: 10}}, nil},
		{span(0, 10), []api.Span{{From: -1, To: 11}}, nil},
		{span(0, 10), []api.Span{{From: 0, To: 3}, {From: 3, To: 10}}, nil},
		{span(0, 10), []api.Span{{From: 0, To: 3}, {From: 2, To: 8}, {From: 5, To: 20}}, nil},
		{span(0, 10), []api.Span{{From: 1, To: 9}, {From: 3, To: 4}}, []api.Span{{From: 0, To: 1}, {From: 9, To: 10}}},
		{span(least, great), nil, []api.Span{{From: least, To: great}}},
		{span(least, great), []api.Span{{From: least, To: great}}, nil},
		{span(least, great), []api.Span{{From: least, To: least + 1}, {From: great - 1, To: great}, {From: 0, To: 1}}, []api.Span{{From: least + 1, To: 0}, {From: 1, To: great - 1}}},
		{span(0, 1), []api.Span{{From: least, To: 0}, {From: 1, To: great}}, []api.Span{{From: 0, To: 1}}},
	}
	for _, c := range cases {
		eachOrder(c.l, func(l []api.Span) {
			if got := Minus(c.s, l); !slices.Equal(got, c.want) {
				t.Error(c.s, l, got, c.want)
			}
		})
	}
	thrown := stream(745)
	for range 20000 {
		s, l := thrownSpan(&thrown), thrownRow(&thrown)
		if got := Minus(s, l); !slices.Equal(got, plainMinus(s, l)) {
			t.Fatal(s, l, got, plainMinus(s, l))
		}
	}
	for i, at := range []int64{least, -8, great - 16} {
		thrown := stream(746 + i)
		for range 5000 {
			s, l := span(at+int64(thrown.below(8)), at+int64(thrown.below(17))), nearRow(&thrown, at)
			if got := Minus(s, l); !slices.Equal(got, plainMinus(s, l)) {
				t.Fatal(s, l, got, plainMinus(s, l))
			}
		}
	}
}

// TestRowForm: P7.4, rising, none empty, a moment between each two.
func TestRowForm(t *testing.T) {
	thrown := stream(749)
	for range 5000 {
		s, l := thrownSpan(&thrown), thrownRow(&thrown)
		for _, row := range [][]api.Span{Union(l), Minus(s, l)} {
			for i, part := range row {
				if part.From >= part.To || i > 0 && row[i-1].To >= part.From {
					t.Fatal(s, l, row)
				}
			}
		}
	}
}

// TestMinusFollows: P7.5, what is left of a span and what others hold of it are together the span, and share nothing.
func TestMinusFollows(t *testing.T) {
	thrown := stream(750)
	for range 10000 {
		s, l := thrownSpan(&thrown), thrownRow(&thrown)
		left := Minus(s, l)
		together := slices.Clone(left)
		for _, other := range l {
			taken := Meet(s, other)
			for _, part := range left {
				if Meet(part, taken) != (api.Span{}) || !Covers(s, part) {
					t.Fatal(s, l, left)
				}
			}
			together = append(together, taken)
		}
		if got := Union(together); !slices.Equal(got, Union([]api.Span{s})) {
			t.Fatal(s, l, left, got)
		}
	}
}

// TestApart: what is handed in stays as it was, and isn't kept; what is answered is new memory.
func TestApart(t *testing.T) {
	thrown := stream(751)
	for range 2000 {
		s, l := thrownSpan(&thrown), thrownRow(&thrown)
		before := slices.Clone(l)
		union, minus := Union(l), Minus(s, l)
		if !slices.Equal(l, before) {
			t.Fatal(before, l)
		}
		wantUnion, wantMinus := slices.Clone(union), slices.Clone(minus)
		spoil(l)
		if !slices.Equal(union, wantUnion) || !slices.Equal(minus, wantMinus) {
			t.Fatal("an answer lies in what was handed in", before)
		}
		copy(l, before)
		spoil(union)
		spoil(minus)
		if !slices.Equal(l, before) || !slices.Equal(Union(l), wantUnion) || !slices.Equal(Minus(s, l), wantMinus) {
			t.Fatal("something was kept", before)
		}
	}
	parts, _ := Split(span(3, 12), 5)
	spoil(parts)
	if again, _ := Split(span(3, 12), 5); !slices.Equal(again, []api.Span{{From: 3, To: 5}, {From: 5, To: 10}, {From: 10, To: 12}}) {
		t.Error("parts were kept", again)
	}
}

// spoil writes over a row, and over what lies behind it in its memory.
func spoil(l []api.Span) {
	l = l[:cap(l)]
	for i := range l {
		l[i] = span(-77, 77)
	}
}
