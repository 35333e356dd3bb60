package filter

import (
	"math"
	"slices"
	"strings"
	"testing"

	"gristmill/api"
)

// stream tells numbers that look thrown, the same ones at each run.
type stream uint64

func (s *stream) below(n int) int {
	*s = *s*6364136223846793005 + 1442695040888963407
	return int(uint64(*s) >> 31 % uint64(n))
}

var leaves = []int{api.FilterAll, api.FilterIs, api.FilterRange, api.FilterBegin, api.FilterMeas}

func all() api.Filter { return api.Filter{Kind: api.FilterAll} }

func not(kids ...api.Filter) api.Filter { return api.Filter{Kind: api.FilterNot, Kids: kids} }

func and(kids ...api.Filter) api.Filter { return api.Filter{Kind: api.FilterAnd, Kids: kids} }

func or(kids ...api.Filter) api.Filter { return api.Filter{Kind: api.FilterOr, Kids: kids} }

func is(dim int, texts ...string) api.Filter {
	return api.Filter{Kind: api.FilterIs, Dim: dim, Texts: texts}
}

func between(dim int, texts ...string) api.Filter {
	return api.Filter{Kind: api.FilterRange, Dim: dim, Texts: texts}
}

func begin(dim int, texts ...string) api.Filter {
	return api.Filter{Kind: api.FilterBegin, Dim: dim, Texts: texts}
}

func meas(dim int, lo, hi int64) api.Filter {
	return api.Filter{Kind: api.FilterMeas, Dim: dim, Lo: lo, Hi: hi}
}

// chain is a filter of a depth, of one Kid each.
func chain(depth int, kinds ...int) api.Filter {
	f := all()
	for at := 1; at < depth; at++ {
		f = api.Filter{Kind: kinds[at%len(kinds)], Kids: []api.Filter{f}}
	}
	return f
}

// wide is a filter of a size, all but the first part side by side.
func wide(kind, size int) api.Filter {
	return api.Filter{Kind: kind, Kids: slices.Repeat([]api.Filter{all()}, size-1)}
}

// split is a filter of a size of 4 or more, whose parts stand in two Kids.
func split(size int) api.Filter {
	return and(wide(api.FilterOr, (size-1)/2), not(wide(api.FilterAnd, size-2-(size-1)/2)))
}

// doubled stands at 2 to that many places.
func doubled(times int) api.Filter {
	f := all()
	for range times {
		f = and(f, f)
	}
	return f
}

// round is a filter that stands in itself, twice.
func round(kind int) api.Filter {
	l := []api.Filter{{Kind: kind}, {Kind: kind}}
	l[0].Kids, l[1].Kids = l, l
	return l[0]
}

// plainKids are the Kids that count, as the document's words say it.
func plainKids(f api.Filter) []api.Filter {
	if f.Kind == api.FilterNot && len(f.Kids) > 0 {
		return []api.Filter{f.Kids[0]}
	}
	if f.Kind == api.FilterAnd || f.Kind == api.FilterOr {
		return f.Kids
	}
	return nil
}

func plainSize(f api.Filter) int {
	size := 1
	for _, kid := range plainKids(f) {
		size += plainSize(kid)
	}
	return size
}

func plainDepth(f api.Filter) int {
	below := 0
	for _, kid := range plainKids(f) {
		below = max(below, plainDepth(kid))
	}
	return 1 + below
}

func plainFits(s api.Schema, f api.Filter) bool {
	fine := map[int]bool{
		api.FilterAll:   true,
		api.FilterNot:   len(f.Kids) == 1,
		api.FilterAnd:   true,
		api.FilterOr:    true,
		api.FilterIs:    true,
		api.FilterRange: len(f.Texts) == 2,
		api.FilterBegin: len(f.Texts) == 1,
		api.FilterMeas:  f.Dim >= 0 && f.Dim <= s.Meas-1,
	}[f.Kind]
	if f.Kind == api.FilterIs || f.Kind == api.FilterRange || f.Kind == api.FilterBegin {
		fine = fine && f.Dim >= 0 && f.Dim <= s.Dims-1
		for _, text := range f.Texts {
			fine = fine && len(text) <= 64
		}
	}
	for _, kid := range plainKids(f) {
		fine = plainFits(s, kid) && fine
	}
	return fine
}

func plainCheck(s api.Schema, f api.Filter) api.Errno {
	if plainFits(s, f) && plainDepth(f) <= 20 && plainSize(f) <= 200 {
		return api.OK
	}
	return api.ErrArg
}

// plainHolds is only for filters that Check takes by a schema that the fact is of.
func plainHolds(f api.Filter, x api.Fact) bool {
	held := 0
	for _, kid := range f.Kids {
		if (f.Kind == api.FilterNot || f.Kind == api.FilterAnd || f.Kind == api.FilterOr) && plainHolds(kid, x) {
			held++
		}
	}
	switch f.Kind {
	case api.FilterAll:
		return true
	case api.FilterNot:
		return held == 0
	case api.FilterAnd:
		return held == len(f.Kids)
	case api.FilterOr:
		return held > 0
	case api.FilterIs:
		for _, text := range f.Texts {
			if text == x.Dims[f.Dim] {
				return true
			}
		}
		return false
	case api.FilterRange:
		return strings.Compare(x.Dims[f.Dim], f.Texts[0]) >= 0 && strings.Compare(x.Dims[f.Dim], f.Texts[1]) < 0
	case api.FilterBegin:
		text, first := x.Dims[f.Dim], f.Texts[0]
		return len(text) >= len(first) && text[:len(first)] == first
	}
	return x.Meas[f.Dim] >= f.Lo && x.Meas[f.Dim] <= f.Hi
}

// clean is a filter without what doesn't count, with all that does in lists of its own.
func clean(f api.Filter) api.Filter {
	out := api.Filter{Kind: f.Kind}
	for _, kid := range plainKids(f) {
		out.Kids = append(out.Kids, clean(kid))
	}
	switch f.Kind {
	case api.FilterIs, api.FilterRange, api.FilterBegin:
		out.Dim, out.Texts = f.Dim, append([]string(nil), f.Texts...)
	case api.FilterMeas:
		out.Dim, out.Lo, out.Hi = f.Dim, f.Lo, f.Hi
	}
	return out
}

// alike holds all that two filters are made of against each other, whether it counts or not.
func alike(a, b api.Filter) bool {
	return a.Kind == b.Kind && a.Dim == b.Dim && a.Lo == b.Lo && a.Hi == b.Hi &&
		slices.Equal(a.Texts, b.Texts) && slices.EqualFunc(a.Kids, b.Kids, alike)
}

// deep is a copy that shares nothing, with all that doesn't count.
func deep(f api.Filter) api.Filter {
	f.Texts = append([]string(nil), f.Texts...)
	kids := []api.Filter{}
	for _, kid := range f.Kids {
		kids = append(kids, deep(kid))
	}
	f.Kids = kids
	return f
}

// littered is a filter with all filled that doesn't count.
func littered(f api.Filter, thrown *stream) api.Filter {
	out := clean(f)
	out.Kids = nil
	for _, kid := range plainKids(f) {
		out.Kids = append(out.Kids, littered(kid, thrown))
	}
	junk := []api.Filter{{Kind: 77}, chain(30, api.FilterNot), wide(api.FilterOr, 300), not()}
	dim, lo, texts := thrown.below(9)-4, int64(thrown.below(9)), []string{strings.Repeat("x", 60+thrown.below(9)), "y"}
	switch f.Kind {
	case api.FilterAnd, api.FilterOr, api.FilterNot:
		out.Dim, out.Texts, out.Lo, out.Hi = dim, texts, lo, -lo
	case api.FilterIs, api.FilterRange, api.FilterBegin:
		out.Lo, out.Hi, out.Kids = lo, -lo, junk
	case api.FilterMeas:
		out.Texts, out.Kids = texts, junk
	default:
		out.Dim, out.Texts, out.Lo, out.Hi, out.Kids = dim, texts, lo, -lo, junk
	}
	return out
}

// thrownFilter is mostly one that Check takes by two dimensions and two measures, of few texts and numbers.
func thrownFilter(thrown *stream, depth int) api.Filter {
	texts := []string{"", "a", "ab", "b", "\xff"}
	text := func() string { return texts[thrown.below(len(texts))] }
	if depth > 0 && thrown.below(3) > 0 {
		f := api.Filter{Kind: api.FilterNot + thrown.below(3)}
		n := thrown.below(4)
		if f.Kind == api.FilterNot {
			n = 1
		}
		for range n {
			f.Kids = append(f.Kids, thrownFilter(thrown, depth-1))
		}
		return f
	}
	switch thrown.below(5) {
	case 0:
		return all()
	case 1:
		f := is(thrown.below(2))
		for range thrown.below(4) {
			f.Texts = append(f.Texts, text())
		}
		return f
	case 2:
		return between(thrown.below(2), text(), text())
	case 3:
		return begin(thrown.below(2), text())
	}
	return meas(thrown.below(2), int64(thrown.below(5))-2, int64(thrown.below(5))-2)
}

func thrownFact(thrown *stream) api.Fact {
	texts := []string{"", "a", "aa", "ab", "abc", "b", "c", "\xff", "\xfe"}
	return api.Fact{
		Time: int64(thrown.below(9)),
		Dims: []string{texts[thrown.below(len(texts))], texts[thrown.below(len(texts))]},
		Meas: []int64{int64(thrown.below(7)) - 3, int64(thrown.below(7)) - 3},
	}
}

// wronged is a filter of which at most one part was made wrong, or another one.
func wronged(f api.Filter, thrown *stream) api.Filter {
	at := &f
	for len(plainKids(*at)) > 0 && thrown.below(3) > 0 {
		at.Kids = slices.Clone(at.Kids)
		at = &at.Kids[thrown.below(len(plainKids(*at)))]
	}
	at.Texts = slices.Clone(at.Texts)
	switch thrown.below(9) {
	case 0:
		at.Kind = thrown.below(12) - 1
	case 1:
		at.Dim = thrown.below(5) - 2
	case 2:
		at.Texts = append(at.Texts, "a")
	case 3:
		at.Texts = at.Texts[:len(at.Texts)/2]
	case 4:
		at.Kids = append(slices.Clone(at.Kids), all())
	case 5:
		at.Kids = nil
	case 6:
		at.Texts = append(at.Texts, strings.Repeat("b", 63+thrown.below(4)))
	case 7:
		at.Lo, at.Hi = at.Hi+1, at.Lo
	}
	return f
}

func expectCheck(t *testing.T, s api.Schema, f api.Filter, want api.Errno) {
	t.Helper()
	if got := Check(s, f); got != want {
		t.Errorf("Check(%+v, %+v): %d, not %d", s, f, got, want)
	}
}

// TestCheckKinds: P5.1, each kind; those below the first one and above the last one are none, also inside.
func TestCheckKinds(t *testing.T) {
	s := api.Schema{Dims: 2, Meas: 2}
	for _, f := range []api.Filter{all(), not(all()), and(), or(), and(all()), or(all(), all(), all()), is(1), is(0, "a", "b", "a"), between(1, "a", "b"), begin(0, "a"), meas(1, 3, 4)} {
		expectCheck(t, s, f, api.OK)
		expectCheck(t, s, not(f), api.OK)
	}
	for _, kind := range []int{0, -1, 9, 10, 77, math.MinInt, math.MaxInt, 256 + api.FilterAll, -api.FilterAll} {
		f := api.Filter{Kind: kind, Texts: []string{"a"}, Kids: []api.Filter{all()}}
		for _, f := range []api.Filter{f, {Kind: kind}, not(f), and(f), or(all(), f), and(all(), or(not(f), all())), and(f, all())} {
			expectCheck(t, s, f, api.ErrArg)
		}
	}
}

// TestCheckCounts: P5.1, as many Kids and Texts as there must be.
func TestCheckCounts(t *testing.T) {
	s := api.Schema{Dims: 1, Meas: 1}
	for _, f := range []api.Filter{not(all()), and(), or(), is(0), is(0, ""), between(0, "", ""), between(0, "b", "a"), between(0, "a", "a"), begin(0, "")} {
		expectCheck(t, s, f, api.OK)
		expectCheck(t, s, and(all(), not(f)), api.OK)
	}
	for _, f := range []api.Filter{not(), not(all(), all()), not(all(), all(), all()), between(0), between(0, "a"), between(0, "a", "b", "c"), begin(0), begin(0, "a", "b"), begin(0, "", "")} {
		expectCheck(t, s, f, api.ErrArg)
		expectCheck(t, s, not(f), api.ErrArg)
		expectCheck(t, s, or(all(), and(f)), api.ErrArg)
	}
}

// TestCheckDim: P5.1, dimensions and measures that there are in the schema, and those beside them.
func TestCheckDim(t *testing.T) {
	for _, s := range []api.Schema{{Dims: 3, Meas: 5}, {Dims: 5, Meas: 3}, {Dims: 8, Meas: 8}, {Dims: 1, Meas: 0}, {Dims: 0, Meas: 1}, {}} {
		for _, dim := range []int{math.MinInt, -2, -1, 0, 1, 2, 3, 4, 5, 6, 7, 8, 9, math.MaxInt} {
			wantDim, wantMeas := api.ErrArg, api.ErrArg
			if dim >= 0 && dim < s.Dims {
				wantDim = api.OK
			}
			if dim >= 0 && dim < s.Meas {
				wantMeas = api.OK
			}
			for _, f := range []api.Filter{is(dim), is(dim, "a"), between(dim, "a", "b"), begin(dim, "a")} {
				expectCheck(t, s, f, wantDim)
				expectCheck(t, s, and(all(), not(f)), wantDim)
			}
			expectCheck(t, s, meas(dim, 0, 1), wantMeas)
			expectCheck(t, s, not(meas(dim, 0, 1)), wantMeas)
		}
		expectCheck(t, s, and(not(all()), or()), api.OK)
	}
}

// TestCheckText: P5.1, each Text of MaxText bytes, and of one more.
func TestCheckText(t *testing.T) {
	s := api.Schema{Dims: 1, Meas: 1}
	for _, unit := range []string{"x", "\xff", "\u00e4"} {
		most := strings.Repeat(unit, api.MaxText/len(unit))
		over := most + "x"
		for _, f := range []api.Filter{is(0, most), is(0, "", most, most), between(0, most, most), begin(0, most)} {
			expectCheck(t, s, f, api.OK)
		}
		for _, f := range []api.Filter{is(0, over), is(0, most, over), is(0, over, most), between(0, over, most), between(0, most, over), begin(0, over), begin(0, strings.Repeat(unit, 999))} {
			expectCheck(t, s, f, api.ErrArg)
			expectCheck(t, s, or(all(), not(f)), api.ErrArg)
		}
	}
}

// TestCheckDepth: P5.1, depths up to MaxDepth, one more, and far more.
func TestCheckDepth(t *testing.T) {
	for depth := 1; depth < 60; depth++ {
		want := api.OK
		if depth > api.MaxDepth {
			want = api.ErrArg
		}
		for _, kinds := range [][]int{{api.FilterNot}, {api.FilterAnd}, {api.FilterOr}, {api.FilterNot, api.FilterAnd, api.FilterOr}} {
			f := chain(depth, kinds...)
			expectCheck(t, api.Schema{}, f, want)
			if depth > 1 {
				expectCheck(t, api.Schema{}, and(chain(2, api.FilterOr), f.Kids[0], all()), want)
			}
		}
	}
	expectCheck(t, api.Schema{}, chain(1<<16, api.FilterNot), api.ErrArg)
	expectCheck(t, api.Schema{}, chain(1<<16, api.FilterAnd), api.ErrArg)
}

// TestSizes: P5.1, P5.2, sizes up to MaxNodes, one more, and far more, which are told as one more.
func TestSizes(t *testing.T) {
	for _, size := range []int{4, 5, 6, 7, 99, 100, 198, 199, 200, 201, 202, 203, 399, 400, 401, 402, 100000} {
		told, want := size, api.OK
		if size > 200 {
			told, want = 201, api.ErrArg
		}
		for _, f := range []api.Filter{wide(api.FilterAnd, size), wide(api.FilterOr, size), not(wide(api.FilterOr, size-1)), split(size)} {
			if got := Size(f); got != told || plainSize(f) != size {
				t.Errorf("Size of %d parts: %d, not %d", plainSize(f), got, told)
			}
			if got := Check(api.Schema{}, f); got != want {
				t.Errorf("Check of %d parts: %d", size, got)
			}
		}
	}
	for depth := range 300 {
		if got := Size(chain(depth+1, api.FilterNot)); got != min(depth+1, 201) {
			t.Errorf("Size of a chain of %d: %d", depth+1, got)
		}
	}
	for kind, want := range map[int]int{api.FilterAll: 1, api.FilterNot: 1, api.FilterAnd: 1, api.FilterOr: 1, api.FilterIs: 1, 0: 1, 9: 1, -1: 1} {
		if got := Size(api.Filter{Kind: kind}); got != want {
			t.Errorf("Size of kind %d: %d", kind, got)
		}
	}
	for at, f := range []api.Filter{chain(1<<16, api.FilterNot), doubled(8), doubled(15), doubled(60)} {
		if Size(f) != 201 || Check(api.Schema{}, f) != api.ErrArg {
			t.Errorf("far more %d: %d", at, Size(f))
		}
	}
	if Size(doubled(7)) != 201 || Size(doubled(6)) != 127 {
		t.Errorf("doubled: %d, %d", Size(doubled(7)), Size(doubled(6)))
	}
}

// TestSizeWhatCounts: P5.2, Kids that don't count are in no size and no depth.
func TestSizeWhatCounts(t *testing.T) {
	great, far := wide(api.FilterOr, 300), chain(30, api.FilterAnd)
	s := api.Schema{Dims: 1, Meas: 1}
	for _, c := range []struct {
		f    api.Filter
		size int
		code api.Errno
	}{
		{api.Filter{Kind: api.FilterAll, Dim: -7, Texts: []string{strings.Repeat("x", 99)}, Lo: 9, Hi: 2, Kids: []api.Filter{great, far, {}}}, 1, api.OK},
		{api.Filter{Kind: api.FilterIs, Texts: []string{"a"}, Lo: 9, Hi: 2, Kids: []api.Filter{great, far, {}}}, 1, api.OK},
		{api.Filter{Kind: api.FilterRange, Texts: []string{"a", "b"}, Lo: 9, Hi: 2, Kids: []api.Filter{great, far, {}}}, 1, api.OK},
		{api.Filter{Kind: api.FilterBegin, Texts: []string{"a"}, Lo: 9, Hi: 2, Kids: []api.Filter{great, far, {}}}, 1, api.OK},
		{api.Filter{Kind: api.FilterMeas, Texts: []string{strings.Repeat("x", 99), "", ""}, Kids: []api.Filter{great, far, {}}}, 1, api.OK},
		{api.Filter{Kind: api.FilterAnd, Dim: -7, Texts: []string{strings.Repeat("x", 99)}, Lo: 9, Hi: 2, Kids: []api.Filter{all()}}, 2, api.OK},
		{api.Filter{Kind: api.FilterOr, Dim: 7, Texts: []string{strings.Repeat("x", 99)}, Lo: 9, Hi: 2}, 1, api.OK},
		{api.Filter{Kind: api.FilterNot, Dim: 7, Texts: []string{strings.Repeat("x", 99)}, Lo: 9, Hi: 2, Kids: []api.Filter{all()}}, 2, api.OK},
		{api.Filter{Kind: 9, Kids: []api.Filter{great, far}}, 1, api.ErrArg},
		{api.Filter{Kids: []api.Filter{all(), all()}}, 1, api.ErrArg},
		{not(), 1, api.ErrArg},
		{not(all(), great, far), 2, api.ErrArg},
		{not(and(all(), all()), all()), 4, api.ErrArg},
		{not(great, all()), 201, api.ErrArg},
	} {
		if got := Size(c.f); got != c.size {
			t.Errorf("Size(%+v): %d, not %d", c.f.Kind, got, c.size)
		}
		expectCheck(t, s, c.f, c.code)
	}
}

// TestHolds: P5.2, kinds one by one, at their edges.
func TestHolds(t *testing.T) {
	x := api.Fact{Time: 3, Dims: []string{"ab", "", "\xff"}, Meas: []int64{5, math.MinInt64, math.MaxInt64}}
	for _, c := range []struct {
		f    api.Filter
		want bool
	}{
		{all(), true}, {not(all()), false}, {not(not(all())), true},
		{and(), true}, {or(), false}, {not(and()), false}, {not(or()), true},
		{and(all()), true}, {or(all()), true}, {and(or()), false}, {or(or()), false},
		{and(all(), or()), false}, {and(or(), all()), false}, {or(all(), or()), true}, {or(or(), all()), true},
		{and(all(), all(), all()), true}, {or(or(), or(), or()), false},
		{is(0), false}, {is(0, "a"), false}, {is(0, "ab"), true}, {is(0, "a", "ab"), true}, {is(0, "ab", "a"), true}, {is(0, "abc", "b", ""), false},
		{is(1, ""), true}, {is(1), false}, {is(2, "\xff"), true}, {is(2, "\u00ff"), false}, {is(0, "AB"), false},
		{between(0, "ab", "abc"), true}, {between(0, "ab", "ab"), false}, {between(0, "aa", "ab"), false}, {between(0, "ab", "ac"), true},
		{between(0, "a", "ab\x00"), true}, {between(0, "abc", "ab"), false}, {between(0, "b", "a"), false}, {between(0, "ac", "b"), false}, {between(0, "", ""), false}, {between(0, "", "\xff"), true},
		{between(0, "B", "a"), false}, {between(0, "B", "b"), true}, {between(1, "", "\x00"), true}, {between(1, "", ""), false}, {between(1, "\x00", "a"), false},
		{between(2, "\u00ff", "\xff\x00"), true}, {between(2, "\xfe", "\xff"), false},
		{begin(0, ""), true}, {begin(0, "a"), true}, {begin(0, "ab"), true}, {begin(0, "abc"), false}, {begin(0, "b"), false}, {begin(0, "A"), false},
		{begin(1, ""), true}, {begin(1, "a"), false}, {begin(2, "\xff"), true}, {begin(2, "\u00ff"), false},
		{meas(0, 5, 5), true}, {meas(0, 6, 5), false}, {meas(0, 5, 4), false}, {meas(0, 4, 6), true}, {meas(0, 6, 9), false}, {meas(0, -9, 4), false}, {meas(0, 6, 4), false},
		{meas(0, 5, math.MaxInt64), true}, {meas(0, math.MinInt64, 5), true}, {meas(0, 0, 0), false}, {meas(0, math.MinInt64, math.MaxInt64), true}, {meas(0, math.MaxInt64, math.MinInt64), false},
		{meas(1, math.MinInt64, math.MinInt64), true}, {meas(1, math.MinInt64+1, math.MaxInt64), false}, {meas(2, math.MaxInt64, math.MaxInt64), true}, {meas(2, math.MinInt64, math.MaxInt64-1), false},
	} {
		if Check(api.Schema{Dims: 3, Meas: 3}, c.f) != api.OK || Holds(c.f, x) != c.want {
			t.Errorf("%+v: not %t", c.f, c.want)
		}
		if Holds(not(c.f), x) == c.want || Holds(not(not(c.f)), x) != c.want || Holds(and(c.f), x) != c.want || Holds(or(c.f), x) != c.want {
			t.Errorf("%+v, inside others", c.f)
		}
	}
}

// TestHoldsGreat: P5.2, filters as deep and as great as may be.
func TestHoldsGreat(t *testing.T) {
	for depth := 1; depth <= api.MaxDepth; depth++ {
		if got := Holds(chain(depth, api.FilterNot), api.Fact{}); got != (depth%2 == 1) {
			t.Errorf("%d deep: %t", depth, got)
		}
	}
	last := or()
	last.Kids = append(slices.Repeat([]api.Filter{or()}, 198), all())
	if !Holds(last, api.Fact{}) || Check(api.Schema{}, last) != api.OK {
		t.Error("the last Kid")
	}
	last = and()
	last.Kids = append(slices.Repeat([]api.Filter{all()}, 198), or())
	if Holds(last, api.Fact{}) || !Holds(wide(api.FilterAnd, 200), api.Fact{}) {
		t.Error("the last Kid")
	}
}

// TestThrown: P5.1 to P5.4, thrown filters, littered and not, against the document's words.
func TestThrown(t *testing.T) {
	thrown := stream(5)
	s := api.Schema{Dims: 2, Meas: 2}
	held, taken := 0, 0
	for round := range 4000 {
		f := thrownFilter(&thrown, round%8)
		if round%2 == 0 {
			f = littered(f, &thrown)
		}
		if round%5 == 0 {
			f = wronged(f, &thrown)
		}
		was := deep(f)
		if got, want := Check(s, f), plainCheck(s, f); got != want {
			t.Fatalf("Check(%+v): %d, not %d", f, got, want)
		}
		if got := Size(f); got != min(plainSize(f), 201) {
			t.Fatalf("Size(%+v): %d, not %d", f, got, plainSize(f))
		}
		if plainCheck(s, f) == api.OK {
			taken++
			for range 8 {
				x := thrownFact(&thrown)
				want := plainHolds(f, x)
				if want {
					held++
				}
				if Holds(f, x) != want || Holds(Not(f), x) == want {
					t.Fatalf("Holds(%+v, %+v): not %t", f, x, want)
				}
			}
			expectNot(t, f)
		}
		if !alike(f, was) {
			t.Fatalf("changed: %+v, it was %+v", f, was)
		}
	}
	if held < 4000 || taken < 3000 || held > taken*6 {
		t.Errorf("too few of some: %d held, %d taken", held, taken)
	}
}

// TestThrownSame: P5.2, thrown filters and others that are nearly the same.
func TestThrownSame(t *testing.T) {
	thrown := stream(55)
	same := 0
	for round := range 4000 {
		a := thrownFilter(&thrown, round%7)
		b := wronged(littered(a, &thrown), &thrown)
		if plainDepth(a) > 20 || plainSize(a) > 200 || plainDepth(b) > 20 || plainSize(b) > 200 {
			continue
		}
		want := alike(clean(a), clean(b))
		if want {
			same++
		}
		if Same(a, b) != want || Same(b, a) != want || !Same(a, a) || !Same(b, clean(b)) || !Same(littered(b, &thrown), b) {
			t.Fatalf("%+v and %+v: not %t", a, b, want)
		}
	}
	if same < 300 || same > 3700 {
		t.Errorf("same %d times", same)
	}
}

// TestSameKinds: P5.2, no two of unlike filters are the same, alone and inside of others.
func TestSameKinds(t *testing.T) {
	unlike := []api.Filter{
		{}, {Kind: 9}, {Kind: -1}, all(), not(), not(all()), not(not(all())), not(and()), not(or()),
		and(), or(), and(all()), or(all()), and(all(), all()), or(all(), all()), and(and()), and(or()), or(and()), and(and(all())), and(all(), or()), and(or(), all()), and(not(all())), and(not()),
		is(0), is(1), is(-1), is(0, ""), is(0, "a"), is(0, "a", "b"), is(0, "b", "a"), is(0, "a", "a"), is(0, "ab"), is(1, "a"),
		begin(0), begin(0, ""), begin(0, "a"), begin(1, "a"), begin(0, "a", "b"),
		between(0), between(0, "a"), between(0, "a", "b"), between(0, "b", "a"), between(0, "a", "c"), between(0, "c", "b"), between(1, "a", "b"), between(0, "a", "b", "c"),
		meas(0, 0, 0), meas(1, 0, 0), meas(0, 1, 0), meas(0, 0, 1), meas(0, 1, 1), meas(0, -1, 1), meas(-1, 0, 0),
	}
	thrown := stream(4)
	for i, a := range unlike {
		for j, b := range unlike {
			want := i == j
			x, y := littered(a, &thrown), littered(b, &thrown)
			if Same(a, b) != want || Same(x, y) != want || Same(not(x), not(y)) != want || Same(and(all(), x), and(all(), y)) != want || Same(or(x, all()), or(y, all())) != want {
				t.Errorf("%+v and %+v: not %t", a, b, want)
			}
		}
	}
}

// TestSameCounts: P5.2, what doesn't count parts no two filters.
func TestSameCounts(t *testing.T) {
	for _, c := range [][2]api.Filter{
		{not(all()), not(all(), or())},
		{not(all(), is(0)), not(all(), or(), or())},
		{not(nil...), {Kind: api.FilterNot, Dim: 4, Lo: 3, Kids: []api.Filter{}}},
		{{Kind: 9}, {Kind: 9, Dim: 4, Lo: 3, Hi: 2, Texts: []string{"a"}, Kids: []api.Filter{all()}}},
		{{}, {Dim: 4, Lo: 3, Hi: 2, Texts: []string{"a"}, Kids: []api.Filter{all()}}},
		{all(), {Kind: api.FilterAll, Dim: 4, Lo: 3, Hi: 2, Texts: []string{"a"}, Kids: []api.Filter{all()}}},
		{and(), {Kind: api.FilterAnd, Dim: 4, Lo: 3, Hi: 2, Texts: []string{"a"}, Kids: []api.Filter{}}},
		{or(), {Kind: api.FilterOr, Dim: 4, Lo: 3, Hi: 2, Texts: []string{"a"}}},
		{is(1, "a"), {Kind: api.FilterIs, Dim: 1, Lo: 3, Hi: 2, Texts: []string{"a"}, Kids: []api.Filter{all()}}},
		{is(0), {Kind: api.FilterIs, Texts: []string{}}},
		{between(1, "a", "b"), {Kind: api.FilterRange, Dim: 1, Lo: 3, Hi: 2, Texts: []string{"a", "b"}, Kids: []api.Filter{all()}}},
		{begin(1, "a"), {Kind: api.FilterBegin, Dim: 1, Lo: 3, Hi: 2, Texts: []string{"a"}, Kids: []api.Filter{all()}}},
		{meas(1, 2, 3), {Kind: api.FilterMeas, Dim: 1, Lo: 2, Hi: 3, Texts: []string{"a"}, Kids: []api.Filter{all()}}},
	} {
		if !Same(c[0], c[1]) || !Same(c[1], c[0]) || !Same(and(all(), not(c[0])), and(all(), not(c[1]))) {
			t.Errorf("%+v and %+v", c[0], c[1])
		}
	}
	great, other := wide(api.FilterOr, 200), wide(api.FilterOr, 200)
	other.Kids[198] = or()
	if !Same(great, wide(api.FilterOr, 200)) || Same(great, other) || Same(great, wide(api.FilterOr, 199)) || !Same(chain(20, api.FilterAnd), chain(20, api.FilterAnd)) {
		t.Error("great ones")
	}
}
