package engine

import (
	"fmt"
	"reflect"
	"slices"
	"strings"
	"testing"

	"gristmill/api"
	"gristmill/filter"
	"gristmill/segment"
)

// sample is a segment of two dimensions and two measures: rows 0 to 6.
func sample(t *testing.T) *segment.Segment {
	t.Helper()
	return made(t, api.Schema{Dims: 2, Meas: 2},
		many(1, 0, []string{"", "k"}, least, 0),
		many(2, 1, []string{"a", "k"}, -1, 1),
		many(1, 2, []string{"ab", "l"}, 0, 0),
		many(1, 3, []string{"abc", "k"}, 1, 5),
		many(3, 4, []string{"b", "l"}, 7, 5),
		many(1, 5, []string{"\xff", "m"}, great-1, 0),
		many(1, 6, []string{"\xff\xff", "k"}, great, -5),
	)
}

// TestExample: the document's table.
func TestExample(t *testing.T) {
	l := []api.Many{one(1, 3, "a", -1), one(2, 5, "b", 7)}
	g := made(t, oneOne, l...)
	expectRows(t, g, is(0, "b", "c"), 1)
	expectRows(t, g, meas(0, -5, 0), 0)
	q := api.Query{Span: always, Filter: all(), Sets: [][]int{{}}, Aggs: []api.Agg{{Kind: api.AggCount}}, Groups: 1}
	expectGroups(t, oneOne, l, q, api.Span{From: 4, To: 9}, `0 0 [] | 2 0 []`)
}

// TestWhereAll: P11.1, FilterAll holds of all rows, whatever Kids it brings.
func TestWhereAll(t *testing.T) {
	g := sample(t)
	everyRow := []int{0, 1, 2, 3, 4, 5, 6}
	expectRows(t, g, all(), everyRow...)
	brings := all()
	brings.Kids, brings.Dim, brings.Texts = []api.Filter{not(all())}, 99, []string{strings.Repeat("a", 65)}
	expectRows(t, g, brings, everyRow...)
	expectRows(t, g, not(all()))
	expectRows(t, g, not(not(all())), everyRow...)
	expectRows(t, g, not(not(not(all()))))
}

// TestWhereKids: P11.1, And and Or of none, of one, of many, that share rows and that don't.
func TestWhereKids(t *testing.T) {
	g := sample(t)
	k, l := is(1, "k"), is(1, "l")
	low := meas(0, least, 0)
	for _, c := range []struct {
		f    api.Filter
		want []int
	}{
		{and(), []int{0, 1, 2, 3, 4, 5, 6}},
		{or(), nil},
		{and(k), []int{0, 1, 3, 6}},
		{or(k), []int{0, 1, 3, 6}},
		{and(k, k), []int{0, 1, 3, 6}},
		{or(k, k), []int{0, 1, 3, 6}},
		{and(k, low), []int{0, 1}},
		{or(k, low), []int{0, 1, 2, 3, 6}},
		{and(k, l), nil},
		{or(k, l), []int{0, 1, 2, 3, 4, 6}},
		{and(k, low, begin(0, "a")), []int{1}},
		{or(is(0, "\xff"), is(0, "b"), is(0, "")), []int{0, 4, 5}},
		{and(all(), or(), k), nil},
		{or(and(), k), []int{0, 1, 2, 3, 4, 5, 6}},
		{and(k, not(low)), []int{3, 6}},
		{or(not(k), and(low, is(0, "a"))), []int{1, 2, 4, 5}},
		{and(or(k, l), or(low, not(l))), []int{0, 1, 2, 3, 6}},
	} {
		expectRows(t, g, c.f, c.want...)
		expectHolds(t, g, c.f)
	}
}

// TestWhereIs: P11.1, texts that the dictionary has, and hasn't, one twice, none.
func TestWhereIs(t *testing.T) {
	g := sample(t)
	for _, c := range []struct {
		f    api.Filter
		want []int
	}{
		{is(0), nil},
		{is(0, ""), []int{0}},
		{is(0, "a"), []int{1}},
		{is(0, "\xff\xff"), []int{6}},
		{is(0, "a", "a"), []int{1}},
		{is(0, "b", "a", "b"), []int{1, 4}},
		{is(0, "k"), nil},
		{is(0, "aa", "ac", "\x00", "\xff\xff\xff", strings.Repeat("a", 64)), nil},
		{is(0, "aa", "abc", "zz"), []int{3}},
		{is(1), nil},
		{is(1, "k"), []int{0, 1, 3, 6}},
		{is(1, "m", "l", "nothing"), []int{2, 4, 5}},
		{is(1, "", "a"), nil},
		{is(1, "k", "l", "m"), []int{0, 1, 2, 3, 4, 5, 6}},
	} {
		expectRows(t, g, c.f, c.want...)
		expectHolds(t, g, c.f)
	}
	expectRows(t, g, is(1, slices.Repeat([]string{"l", "x"}, 5000)...), 2, 4)
}

// TestWhereRange: P11.1, ends that the dictionary has, that lie between its texts, ahead of all, behind all, that are the same, the wrong way round.
func TestWhereRange(t *testing.T) {
	g := sample(t)
	for _, c := range []struct {
		f    api.Filter
		want []int
	}{
		{between(0, "a", "b"), []int{1, 2, 3}},
		{between(0, "a", "abc"), []int{1, 2}},
		{between(0, "a", "abc\x00"), []int{1, 2, 3}},
		{between(0, "aa", "abb"), []int{2}},
		{between(0, "aa", "aaz"), nil},
		{between(0, "", "a"), []int{0}},
		{between(0, "", "\xff\xff\xff"), []int{0, 1, 2, 3, 4, 5, 6}},
		{between(0, "", "\xff\xff"), []int{0, 1, 2, 3, 4, 5}},
		{between(0, "\x00", "z"), []int{1, 2, 3, 4}},
		{between(0, "\xff\xff", "\xff\xff\x00"), []int{6}},
		{between(0, "\xff\xff\x00", "\xff\xff\xff"), nil},
		{between(0, "", ""), nil},
		{between(0, "a", "a"), nil},
		{between(0, "aa", "aa"), nil},
		{between(0, "b", "a"), nil},
		{between(0, "\xff\xff\xff", ""), nil},
		{between(0, "z", "ab"), nil},
		{between(1, "", "k"), nil},
		{between(1, "a", "l"), []int{0, 1, 3, 6}},
		{between(1, "l", "z"), []int{2, 4, 5}},
		{between(1, "n", "z"), nil},
	} {
		expectRows(t, g, c.f, c.want...)
		expectHolds(t, g, c.f)
	}
}

// TestWhereBegin: P11.1, an empty beginning, a whole text, one that no text has, bytes of 255.
func TestWhereBegin(t *testing.T) {
	g := sample(t)
	for _, c := range []struct {
		f    api.Filter
		want []int
	}{
		{begin(0, ""), []int{0, 1, 2, 3, 4, 5, 6}},
		{begin(0, "a"), []int{1, 2, 3}},
		{begin(0, "ab"), []int{2, 3}},
		{begin(0, "abc"), []int{3}},
		{begin(0, "abcd"), nil},
		{begin(0, "aa"), nil},
		{begin(0, "c"), nil},
		{begin(0, "\x00"), nil},
		{begin(0, "\xff"), []int{5, 6}},
		{begin(0, "\xff\xff"), []int{6}},
		{begin(0, "\xff\xff\xff"), nil},
		{begin(0, strings.Repeat("\xff", 64)), nil},
		{begin(1, ""), []int{0, 1, 2, 3, 4, 5, 6}},
		{begin(1, "k"), []int{0, 1, 3, 6}},
	} {
		expectRows(t, g, c.f, c.want...)
		expectHolds(t, g, c.f)
	}
}

// TestWhereMeas: P11.1, Lo at and above Hi, the least and the greatest number, a measure that has a number twice.
func TestWhereMeas(t *testing.T) {
	g := sample(t)
	for _, c := range []struct {
		f    api.Filter
		want []int
	}{
		{meas(0, 0, 0), []int{2}},
		{meas(0, 2, 2), nil},
		{meas(0, 1, 0), nil},
		{meas(0, great, least), nil},
		{meas(0, least, great), []int{0, 1, 2, 3, 4, 5, 6}},
		{meas(0, least, least), []int{0}},
		{meas(0, great, great), []int{6}},
		{meas(0, least+1, great-1), []int{1, 2, 3, 4, 5}},
		{meas(0, -1, 1), []int{1, 2, 3}},
		{meas(0, 0, 6), []int{2, 3}},
		{meas(1, 0, 0), []int{0, 2, 5}},
		{meas(1, -9, -1), []int{6}},
		{meas(1, 1, 5), []int{1, 3, 4}},
	} {
		expectRows(t, g, c.f, c.want...)
		expectHolds(t, g, c.f)
	}
}

// TestWhereNotLooked: P11.1, what a kind isn't said to have isn't looked at.
func TestWhereNotLooked(t *testing.T) {
	g := sample(t)
	for _, f := range []api.Filter{and(is(0, "a")), or(is(0, "a")), not(is(0, "a")), is(0, "a"), between(0, "a", "b"), begin(0, "a"), meas(1, 0, 0)} {
		want := plainRows(g, f)
		switch f.Kind {
		case api.FilterNot, api.FilterAnd, api.FilterOr:
			f.Dim, f.Texts, f.Lo, f.Hi = -1, []string{"x"}, 5, 4
		case api.FilterMeas:
			f.Texts, f.Kids = []string{strings.Repeat("x", 65)}, []api.Filter{{}}
		default:
			f.Lo, f.Hi, f.Kids = 5, 4, []api.Filter{{}}
		}
		expectRows(t, g, f, want...)
	}
}

// TestWhereGreat: P11.1, filters as deep and as great as may be, and one part more.
func TestWhereGreat(t *testing.T) {
	g := sample(t)
	deep := is(1, "k")
	for range 19 {
		deep = not(deep)
	}
	expectRows(t, g, deep, 2, 4, 5)
	expectWhereRefused(t, g, not(deep))
	nested := is(1, "k")
	for at := range 19 {
		nested = []api.Filter{and(nested, begin(0, "a")), or(nested, meas(0, great, great))}[at%2]
	}
	expectHolds(t, g, nested)
	wide := or()
	for at := range 199 {
		wide.Kids = append(wide.Kids, []api.Filter{meas(0, int64(at), int64(at)), is(0, "zz"), begin(1, "m")}[at%3])
	}
	expectHolds(t, g, wide)
	expectRows(t, g, wide, 2, 5)
	wide.Kids = append(wide.Kids, all())
	expectWhereRefused(t, g, wide)
	itself := and(all(), all())
	itself.Kids[1] = itself
	expectWhereRefused(t, g, itself)
}

// TestWhereRefused: P11.1, ErrArg of a nil segment, and of filters that filter.Check refuses by the segment's schema.
func TestWhereRefused(t *testing.T) {
	for _, f := range []api.Filter{all(), not(all()), and(), {}, is(0, "a"), meas(0, 1, 2)} {
		expectWhereRefused(t, nil, f)
	}
	g := sample(t)
	tooLong := strings.Repeat("a", 65)
	wrong := []api.Filter{
		{}, {Kind: -1}, {Kind: 9},
		{Kind: api.FilterNot}, {Kind: api.FilterNot, Kids: []api.Filter{all(), all()}}, not(api.Filter{}),
		and(all(), api.Filter{}), or(all(), api.Filter{Kind: 9}),
		is(-1, "a"), is(2, "a"), is(2), is(0, "a", tooLong),
		between(-1, "a", "b"), between(2, "a", "b"), between(0, "a", tooLong), between(0, tooLong, "b"),
		{Kind: api.FilterRange}, {Kind: api.FilterRange, Texts: []string{"a"}}, {Kind: api.FilterRange, Texts: []string{"a", "b", "c"}},
		begin(-1, "a"), begin(2, "a"), begin(0, tooLong),
		{Kind: api.FilterBegin}, {Kind: api.FilterBegin, Texts: []string{"a", "b"}},
		meas(-1, 0, 1), meas(2, 0, 1),
	}
	for _, f := range wrong {
		expectWhereRefused(t, g, f)
		expectWhereRefused(t, g, not(f))
		expectWhereRefused(t, g, and(all(), or(all(), f)))
	}
}

// TestWhereBare: P11.1, segments without rows, without dimensions, without measures.
func TestWhereBare(t *testing.T) {
	noRows := made(t, api.Schema{Dims: 1, Meas: 1})
	for _, f := range []api.Filter{all(), not(all()), and(), or(), is(0, "a"), is(0), between(0, "", "z"), begin(0, ""), meas(0, least, great), not(is(0, "a"))} {
		expectRows(t, noRows, f)
	}
	noDims := made(t, api.Schema{Meas: 1}, many(1, 3, nil, 5), many(1, 3, nil, 6))
	expectRows(t, noDims, all(), 0, 1)
	expectRows(t, noDims, meas(0, 6, 9), 1)
	for _, f := range []api.Filter{is(0, "a"), is(0), between(0, "", "z"), begin(0, "")} {
		expectWhereRefused(t, noDims, f)
	}
	noMeas := made(t, api.Schema{Dims: 1}, many(1, 3, []string{"a"}), many(1, 4, []string{"b"}))
	expectRows(t, noMeas, is(0, "b"), 1)
	expectWhereRefused(t, noMeas, meas(0, least, great))
	bare := made(t, api.Schema{}, many(most, 3, nil), many(1, 4, nil))
	expectRows(t, bare, not(or()), 0, 1)
	expectWhereRefused(t, bare, is(0))
	expectWhereRefused(t, bare, meas(0, 0, 0))
	expectRows(t, &segment.Segment{}, all())
	nothing := made(t, api.Schema{})
	expectRows(t, nothing, all())
	expectRows(t, nothing, not(all()))
}

// TestWhereManyRows: P11.1, as many rows as may be, in more than one word of a set.
func TestWhereManyRows(t *testing.T) {
	var l []api.Many
	for at := range api.MaxFacts {
		l = append(l, one(1, int64(at), fmt.Sprint("t", at%97), int64(at*7919%4096)))
	}
	g := made(t, oneOne, l...)
	for _, f := range []api.Filter{
		all(), is(0, "t0", "t96", "t97"), between(0, "t3", "t5"), begin(0, "t1"), begin(0, "t"), meas(0, 100, 3000),
		and(begin(0, "t1"), meas(0, 0, 2047), not(is(0, "t11"))), or(is(0, "t5"), meas(0, 4095, 4095)),
	} {
		expectHolds(t, g, f)
	}
}

// TestWhereThrown: P11.1, against filter.Holds asked of each row's fact.
func TestWhereThrown(t *testing.T) {
	thrown := stream(11)
	for range 400 {
		c := thrown.schema()
		g := made(t, c, thrown.facts(c, 40)...)
		for range 20 {
			f := thrown.filter(c, 5)
			if filter.Check(c, f) != api.OK {
				t.Fatalf("%#v may not be", f)
			}
			expectHolds(t, g, f)
		}
	}
}

// TestWhereNewMemory: P11.1, the filter stays as it was, and whoever changes an answer changes nothing else.
func TestWhereNewMemory(t *testing.T) {
	g := sample(t)
	bytes, _ := segment.Build(g.Schema(), g.Facts())
	for _, make := range []func() api.Filter{
		func() api.Filter { return or(is(0, "b"), is(0, "a")) },
		func() api.Filter { return and(is(0, "b", "a"), not(is(0, "a"))) },
		func() api.Filter { return is(0, "b") },
		func() api.Filter { return between(0, "b", "c") },
		func() api.Filter { return begin(0, "b") },
		func() api.Filter { return meas(0, 7, 7) },
		func() api.Filter {
			return api.Filter{Kind: api.FilterAll, Kids: []api.Filter{not(all())}, Texts: []string{"a"}}
		},
	} {
		f := make()
		want := plainRows(g, f)
		first, _ := Where(g, f)
		if !reflect.DeepEqual(f, make()) {
			t.Errorf("%#v, not %#v", f, make())
		}
		for row := range first.Rows() {
			first.Put(row)
		}
		expectRows(t, g, f, want...)
	}
	if again, _ := segment.Build(g.Schema(), g.Facts()); !slices.Equal(again, bytes) {
		t.Errorf("the segment isn't what it was")
	}
	expectHolds(t, g, is(0, "b"))
}
