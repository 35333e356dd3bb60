package table

import (
	"reflect"
	"slices"
	"strings"
	"testing"

	"gristmill/api"
)

// group is one of the query of may.
func group(set int, bucket int64, n uint64, sum int64, dims ...string) api.Group {
	return api.Group{Key: api.Key{Set: set, Bucket: bucket, Dims: dims}, Parts: []api.Partial{{N: n}, {N: n, V: sum}}}
}

func merge(t *testing.T, x *Table, groups ...api.Group) {
	t.Helper()
	if code := x.Merge(groups); code != api.OK {
		t.Errorf("%v of %+v", code, groups)
	}
}

// expectMay asks a table whether a group may be: alone, and behind and ahead of groups that may be.
// Where it may not, nothing changes.
func expectMay(t *testing.T, x *Table, g api.Group, fine bool, others ...api.Group) {
	t.Helper()
	was := showGroups(x.Groups())
	for _, l := range [][]api.Group{{g}, append(slices.Clone(others), g), append([]api.Group{g}, others...)} {
		code := x.Merge(l)
		if (code == api.OK) != fine || code != api.OK && code != api.ErrArg {
			t.Errorf("%v of %+v", code, l)
		}
		if now := showGroups(x.Groups()); !fine && !slices.Equal(now, was) {
			t.Errorf("changed by %+v:\n%v\nfrom\n%v", l, now, was)
		}
	}
}

// TestMerge: P9.2, nothing, new groups, ones that are there, the same key twice in one call.
func TestMerge(t *testing.T) {
	x := made(t, may())
	merge(t, x)
	if code := x.Merge([]api.Group{}); code != api.OK {
		t.Error(code)
	}
	expectGroups(t, x)
	merge(t, x, group(1, 10, 2, 7, "a"), group(0, 90, 1, -1, "b", "a"))
	expectGroups(t, x, `0 90 ["b" "a"] | 1 0 [] | 1 -1 []`, `1 10 ["a"] | 2 0 [] | 2 7 []`)
	merge(t, x, group(1, 10, 3, 5, "a"), group(1, 10, 1, 1, "b"))
	expectGroups(t, x, `0 90 ["b" "a"] | 1 0 [] | 1 -1 []`, `1 10 ["a"] | 5 0 [] | 5 12 []`, `1 10 ["b"] | 1 0 [] | 1 1 []`)
	merge(t, x, group(2, 0, 1, 10), group(1, 10, 1, 1, "a"), group(2, 0, 2, 20), group(1, 10, 1, 1, "a"), group(2, 0, 4, 40))
	expectGroups(t, x, `0 90 ["b" "a"] | 1 0 [] | 1 -1 []`, `1 10 ["a"] | 7 0 [] | 7 14 []`, `1 10 ["b"] | 1 0 [] | 1 1 []`, `2 0 [] | 7 0 [] | 7 70 []`)
	add(t, x, 1, event(15, "a", "c", 6))
	expectGroups(t, x, `0 10 ["a" "c"] | 1 0 [] | 1 6 []`, `0 90 ["b" "a"] | 1 0 [] | 1 -1 []`, `1 10 ["a"] | 8 0 [] | 8 20 []`, `1 10 ["b"] | 1 0 [] | 1 1 []`, `2 0 [] | 7 0 [] | 7 70 []`, `2 10 [] | 1 0 [] | 1 6 []`)
}

// TestMergeAggs: P9.2, what each kind of aggregator has is merged.
func TestMergeAggs(t *testing.T) {
	x := made(t, only(func(q *api.Query) {
		q.Aggs = []api.Agg{{Kind: api.AggCount}, {Kind: api.AggSum}, {Kind: api.AggMin}, {Kind: api.AggMax}, {Kind: api.AggDistinct, Col: 1}}
	}))
	parts := func(n uint64, sum, min, max int64, texts ...string) api.Group {
		return api.Group{Parts: []api.Partial{{N: n}, {N: n, V: sum}, {N: n, V: min}, {N: n, V: max}, {N: n, Texts: texts}}}
	}
	merge(t, x, parts(3, 9, 2, 5, "a", "c"))
	expectGroups(t, x, `0 0 [] | 3 0 [] | 3 9 [] | 3 2 [] | 3 5 [] | 3 0 ["a" "c"]`)
	merge(t, x, parts(2, -9, -8, -1, "b", "c"), parts(1, 6, 6, 6, ""))
	expectGroups(t, x, `0 0 [] | 6 0 [] | 6 6 [] | 6 -8 [] | 6 6 [] | 6 0 ["" "a" "b" "c"]`)
	expectRows(t, x, `0 0 [] = [6 6 -8 6 4]`)
}

// TestMergeSet: P9.2, a Set that is none of the query's.
func TestMergeSet(t *testing.T) {
	x := made(t, may())
	fine := []api.Group{group(0, 10, 1, 1, "a", "b"), group(2, 0, 1, 1)}
	merge(t, x, fine...)
	for _, set := range []int{-1, 3, least, great} {
		for _, dims := range [][]string{nil, {"a"}, {"a", "b"}} {
			expectMay(t, x, group(set, 0, 1, 1, dims...), false, fine...)
		}
	}
	expectMay(t, x, group(0, 0, 1, 1, "a", "b"), true, fine...)
	expectMay(t, x, group(2, 0, 1, 1), true, fine...)
}

// TestMergeBucket: P9.2, where no bucket begins, the first and the last one of the Span, those
// outside of it, Grain 0, an empty Span.
func TestMergeBucket(t *testing.T) {
	const top = 1 << 40
	cases := []struct {
		span   api.Span
		grain  int64
		fine   []int64
		others []int64
	}{
		{api.Span{From: 15, To: 35}, 10, []int64{10, 20, 30}, []int64{0, 40, 15, 11, 19, 25, 34, 35, -10, -20, least, great, top}},
		{api.Span{From: 10, To: 30}, 10, []int64{10, 20}, []int64{0, 30, 9, 11, 29}},
		{api.Span{From: 10, To: 31}, 10, []int64{10, 20, 30}, []int64{0, 40}},
		{api.Span{From: 9, To: 10}, 10, []int64{0}, []int64{9, 10, -10, 1}},
		{api.Span{From: 10, To: 11}, 10, []int64{10}, []int64{0, 20}},
		{api.Span{From: 3, To: 6}, 1, []int64{3, 4, 5}, []int64{2, 6, 0, -1}},
		{api.Span{From: 15, To: 35}, 0, []int64{0}, []int64{1, -1, 15, 10, least, great}},
		{api.Span{To: top}, 0, []int64{0}, []int64{1, -1, top}},
		{api.Span{From: 15, To: 15}, 10, nil, []int64{0, 10, 15, 20}},
		{api.Span{From: 10, To: 10}, 10, nil, []int64{0, 10, 20}},
		{api.Span{From: 15, To: 15}, 0, nil, []int64{0, 15}},
		{api.Span{}, 10, nil, []int64{0, -10, 10}},
		{api.Span{}, 0, nil, []int64{0, -1}},
		{api.Span{}, 1, nil, []int64{0, -1}},
		{api.Span{From: top, To: top}, 1, nil, []int64{top, top - 1, 0}},
		{api.Span{To: top}, top, []int64{0}, []int64{top, -top, 1, least, great}},
		{api.Span{From: top - 1, To: top}, 1, []int64{top - 1}, []int64{top, top - 2, 0}},
		{api.Span{To: top}, 7, []int64{0, 7, top / 7 * 7}, []int64{(top/7 + 1) * 7, -7, 1, top}},
		{api.Span{To: top}, 2, []int64{0, 2, top - 2}, []int64{top, least, great - 1, -2}},
	}
	for _, c := range cases {
		x := made(t, only(func(q *api.Query) { q.Span, q.Grain = c.span, c.grain }))
		for _, b := range c.others {
			expectMay(t, x, api.Group{Key: api.Key{Bucket: b}}, false)
		}
		want := []string{}
		for _, b := range c.fine {
			expectMay(t, x, api.Group{Key: api.Key{Bucket: b}}, true)
			want = append(want, showKey(api.Key{Bucket: b}))
		}
		expectGroups(t, x, want...)
	}
}

// TestMergeDims: P9.2, too few and too many Dims, texts of 64 and of 65 bytes.
func TestMergeDims(t *testing.T) {
	x := made(t, may())
	fits, longer := strings.Repeat("m", 64), strings.Repeat("m", 65)
	fine := []api.Group{group(1, 0, 1, 1, "f")}
	merge(t, x, fine...)
	for _, g := range []api.Group{
		group(0, 0, 1, 1), group(0, 0, 1, 1, "a"), group(0, 0, 1, 1, "a", "b", "c"), group(1, 0, 1, 1), group(1, 0, 1, 1, "a", "b"),
		group(2, 0, 1, 1, "a"), group(2, 0, 1, 1, ""), group(1, 0, 1, 1, longer), group(0, 0, 1, 1, longer, "a"), group(0, 0, 1, 1, "a", longer),
	} {
		expectMay(t, x, g, false, fine...)
	}
	for _, g := range []api.Group{group(0, 0, 1, 1, "", ""), group(1, 0, 1, 1, ""), group(2, 0, 1, 1), group(1, 0, 1, 1, fits), group(0, 0, 1, 1, fits, fits), group(1, 0, 1, 1, "\xff\x00")} {
		expectMay(t, x, g, true, fine...)
	}
}

// TestMergeParts: P9.2, too few and too many Parts, unlike N, N 0, Parts that agg.May refuses.
func TestMergeParts(t *testing.T) {
	x := made(t, only(func(q *api.Query) {
		q.Aggs = []api.Agg{{Kind: api.AggCount}, {Kind: api.AggMax}, {Kind: api.AggDistinct}}
	}))
	whole := func(a, b, c api.Partial) []api.Partial { return []api.Partial{a, b, c} }
	text := []string{"a"}
	fine := api.Group{Key: api.Key{Bucket: 50}, Parts: whole(api.Partial{N: 1}, api.Partial{N: 1}, api.Partial{N: 1, Texts: text})}
	merge(t, x, fine)
	two, greatest := api.Partial{N: 2}, api.Partial{N: 2, V: 9}
	distinct := api.Partial{N: 2, Texts: text}
	for _, parts := range [][]api.Partial{
		nil, {}, {two}, {two, greatest}, {two, greatest, distinct, two}, {two, greatest, distinct, distinct},
		whole(api.Partial{N: 1}, greatest, distinct), whole(api.Partial{N: 3}, greatest, distinct), whole(two, api.Partial{N: 1, V: 9}, distinct), whole(two, greatest, api.Partial{N: 1, Texts: text}), whole(two, greatest, api.Partial{N: 3, Texts: text}),
		whole(api.Partial{}, api.Partial{}, api.Partial{}), whole(api.Partial{}, greatest, distinct), whole(two, api.Partial{}, distinct), whole(two, greatest, api.Partial{}),
		whole(api.Partial{N: 2, V: 1}, greatest, distinct), whole(api.Partial{N: 2, Texts: text}, greatest, distinct), whole(two, api.Partial{N: 2, V: 9, Texts: text}, distinct),
		whole(two, greatest, two), whole(two, greatest, api.Partial{N: 2, V: 1, Texts: text}), whole(two, greatest, api.Partial{N: 2, Texts: []string{"b", "a"}}), whole(two, greatest, api.Partial{N: 2, Texts: []string{"a", "a"}}),
		whole(two, greatest, api.Partial{N: 2, Texts: []string{"a", "b", "c"}}), whole(two, greatest, api.Partial{N: 2, Texts: []string{strings.Repeat("t", 65)}}),
		whole(two, distinct, greatest),
	} {
		expectMay(t, x, api.Group{Parts: parts}, false, fine)
	}
	for _, parts := range [][]api.Partial{
		whole(two, greatest, distinct), whole(two, api.Partial{N: 2, V: least}, api.Partial{N: 2, Texts: []string{"", strings.Repeat("t", 64)}}),
		whole(api.Partial{N: 1 << 60}, api.Partial{N: 1 << 60}, api.Partial{N: 1 << 60, Texts: text}),
	} {
		expectMay(t, x, api.Group{Parts: parts}, true, fine)
	}
}

// TestMergeNoAggs: P9.2, without Aggs groups have no Parts.
func TestMergeNoAggs(t *testing.T) {
	x := made(t, only(func(q *api.Query) { q.Sets = [][]int{{0}} }))
	for _, parts := range [][]api.Partial{{{}}, {{N: 1}}, {{N: 1}, {N: 1}}} {
		expectMay(t, x, api.Group{Key: api.Key{Dims: []string{"a"}}, Parts: parts}, false, api.Group{Key: api.Key{Dims: []string{"b"}}})
	}
	expectGroups(t, x)
	merge(t, x, api.Group{Key: api.Key{Dims: []string{"b"}}}, api.Group{Key: api.Key{Dims: []string{"a"}}, Parts: []api.Partial{}}, api.Group{Key: api.Key{Dims: []string{"b"}}})
	expectGroups(t, x, `0 0 ["a"]`, `0 0 ["b"]`)
}

// TestMergeAllOrNothing: P9.2, one that may not be, wherever it stands in a long list: nothing changes.
func TestMergeAllOrNothing(t *testing.T) {
	for at := range 20 {
		x := made(t, may())
		merge(t, x, group(1, 0, 1, 1, "d"))
		var l []api.Group
		for n := range 20 {
			l = append(l, group(1, int64(n%9)*10, 1, 1, string(rune('a'+n))))
		}
		l[at].Parts[1].N = 2
		if code := x.Merge(l); code != api.ErrArg {
			t.Errorf("%v, wrong at %d", code, at)
		}
		expectGroups(t, x, `1 0 ["d"] | 1 0 [] | 1 1 []`)
		l[at].Parts[1].N = 1
		merge(t, x, l...)
		if x.Len() != 21 {
			t.Error(x.Len())
		}
	}
}

// TestMergeNotKept: rule 3, groups that are handed in aren't changed, and aren't kept; they may share memory.
func TestMergeNotKept(t *testing.T) {
	q := only(func(q *api.Query) {
		q.Sets, q.Aggs = [][]int{{0}}, []api.Agg{{Kind: api.AggSum}, {Kind: api.AggDistinct}}
	})
	fresh := func() []api.Group {
		l := []api.Group{}
		for _, text := range []string{"b", "a", "b"} {
			l = append(l, api.Group{Key: api.Key{Dims: []string{text}}, Parts: []api.Partial{{N: 2, V: 5}, {N: 2, Texts: []string{"k", "m"}}}})
		}
		return l
	}
	want := []string{`0 0 ["a"] | 2 5 [] | 2 0 ["k" "m"]`, `0 0 ["b"] | 4 10 [] | 4 0 ["k" "m"]`}
	x, l := made(t, q), fresh()
	merge(t, x, l...)
	if !reflect.DeepEqual(l, fresh()) {
		t.Errorf("changed: %+v", l)
	}
	for _, g := range l {
		g.Key.Dims[0], g.Parts[0].V, g.Parts[1].Texts[0], g.Parts[1].N = "z", 77, "z", 1
	}
	expectGroups(t, x, want...)

	x, l = made(t, q), fresh()
	l[0].Parts, l[2].Parts = l[1].Parts, l[1].Parts
	merge(t, x, l...)
	expectGroups(t, x, want...)
	if !reflect.DeepEqual(l[1], fresh()[1]) {
		t.Errorf("changed: %+v", l[1])
	}
}
