package grain

import (
	"math"
	"math/big"
	"slices"
	"testing"

	"gristmill/api"
)

const (
	least = math.MinInt64
	great = math.MaxInt64
)

// ends are moments among which all edges lie: both ends of the numbers, 0, and neighbours of each.
var ends = []int64{least, least + 1, least + 2, -1000, -6, -5, -4, -1, 0, 1, 4, 5, 6, 7, 1000, great - 2, great - 1, great}

var noGrains = []int64{0, -1, -2, -5, -great, least, least + 1}

var grains = []int64{1, 2, 3, 5, 7, 10, 1000, 1001, 1 << 40, 1 << 53, 1 << 54, 1 << 62, great/2 + 1, great/3 + 1, great - 2, great - 1, great}

// stream tells numbers that look thrown, the same ones at each run.
type stream uint64

func (s *stream) below(n int) int {
	*s = *s*6364136223846793005 + 1442695040888963407
	return int(uint64(*s) >> 31 % uint64(n))
}

func span(from, to int64) api.Span {
	return api.Span{From: from, To: to}
}

// allSpans are the spans whose ends are among ends, the empty ones too.
func allSpans() []api.Span {
	out := []api.Span{}
	for _, from := range ends {
		for _, to := range ends {
			out = append(out, span(from, to))
		}
	}
	return out
}

// floor is the greatest whole number that isn't above a / b; b is above 0.
func floor(a, b *big.Int) *big.Int {
	q, _ := new(big.Int).DivMod(a, b, new(big.Int))
	return q
}

// plainBucket is where a bucket begins, as the document's words say it, in numbers without an end.
func plainBucket(t, grain int64) int64 {
	if grain < 1 {
		return 0
	}
	g := big.NewInt(grain)
	begin := floor(big.NewInt(t), g)
	begin.Mul(begin, g)
	if !begin.IsInt64() {
		return least
	}
	return begin.Int64()
}

// plainSplit cuts a span by the numbers of its buckets, which it counts ahead.
func plainSplit(s api.Span, grain int64) ([]api.Span, api.Errno) {
	if grain < 1 {
		return nil, api.ErrArg
	}
	if s.To <= s.From {
		return nil, api.OK
	}
	g := big.NewInt(grain)
	first, last := floor(big.NewInt(s.From), g), floor(big.NewInt(s.To-1), g)
	more := new(big.Int).Sub(last, first)
	if more.Cmp(big.NewInt(1000)) >= 0 {
		return nil, api.ErrArg
	}
	out := []api.Span{}
	for k := range more.Int64() + 1 {
		from := new(big.Int).Add(first, big.NewInt(k))
		from.Mul(from, g)
		to := new(big.Int).Add(from, g)
		part := s
		if from.Cmp(big.NewInt(s.From)) > 0 {
			part.From = from.Int64()
		}
		if to.Cmp(big.NewInt(s.To)) < 0 {
			part.To = to.Int64()
		}
		out = append(out, part)
	}
	return out, api.OK
}

// TestExamples: the document's table.
func TestExamples(t *testing.T) {
	if Bucket(7, 5) != 5 || Bucket(-1, 5) != -5 || Bucket(7, 0) != 0 {
		t.Error("Bucket")
	}
	parts, code := Split(span(3, 12), 5)
	if code != api.OK || !slices.Equal(parts, []api.Span{{From: 3, To: 5}, {From: 5, To: 10}, {From: 10, To: 12}}) {
		t.Error("Split", parts, code)
	}
	if got := Union([]api.Span{{From: 1, To: 3}, {From: 3, To: 4}, {From: 6, To: 6}}); !slices.Equal(got, []api.Span{{From: 1, To: 4}}) {
		t.Error("Union", got)
	}
	if got := Minus(span(0, 10), []api.Span{{From: 2, To: 3}, {From: 9, To: 20}}); !slices.Equal(got, []api.Span{{From: 0, To: 2}, {From: 3, To: 9}}) {
		t.Error("Minus", got)
	}
}

// TestHolds: P7.1, Empty and Holds, also of the least and the greatest numbers.
func TestHolds(t *testing.T) {
	cases := []struct {
		s        api.Span
		empty    bool
		holds    []int64
		holdsNot []int64
	}{
		{span(0, 0), true, nil, []int64{-1, 0, 1, least, great}},
		{span(5, 5), true, nil, []int64{4, 5, 6}},
		{span(5, 4), true, nil, []int64{3, 4, 5, 6}},
		{span(great, least), true, nil, []int64{least, -1, 0, 1, great}},
		{span(least, least), true, nil, []int64{least, least + 1}},
		{span(great, great), true, nil, []int64{great, great - 1}},
		{span(0, 1), false, []int64{0}, []int64{-1, 1}},
		{span(-1, 0), false, []int64{-1}, []int64{-2, 0}},
		{span(3, 7), false, []int64{3, 4, 5, 6}, []int64{2, 7, 8, -5, least, great}},
		{span(least, great), false, []int64{least, -1, 0, great - 1}, []int64{great}},
		{span(least, least+1), false, []int64{least}, []int64{least + 1, 0, great}},
		{span(great-1, great), false, []int64{great - 1}, []int64{great - 2, great, least}},
	}
	for _, c := range cases {
		if Empty(c.s) != c.empty {
			t.Error("Empty", c.s)
		}
		for _, m := range c.holds {
			if !Holds(c.s, m) {
				t.Error("Holds", c.s, m)
			}
		}
		for _, m := range c.holdsNot {
			if Holds(c.s, m) {
				t.Error("Holds", c.s, m)
			}
		}
	}
	for _, s := range allSpans() {
		if Holds(s, s.To) {
			t.Error("a span holds its To", s)
		}
		// A span that isn't empty holds its From; one that is, nothing.
		if Holds(s, s.From) == Empty(s) || Holds(s, s.To-1) == Empty(s) && s.To > least {
			t.Error("Empty", s)
		}
	}
}

// TestMeet: P7.1, spans apart, that touch, one within the other, empty ones.
func TestMeet(t *testing.T) {
	none := api.Span{}
	cases := []struct{ a, b, want api.Span }{
		{span(0, 5), span(7, 9), none},
		{span(0, 5), span(5, 9), none},
		{span(0, 5), span(4, 9), span(4, 5)},
		{span(0, 9), span(3, 5), span(3, 5)},
		{span(0, 9), span(0, 5), span(0, 5)},
		{span(0, 9), span(5, 9), span(5, 9)},
		{span(3, 9), span(3, 9), span(3, 9)},
		{span(3, 9), span(5, 5), none},
		{span(3, 9), span(6, 5), none},
		{span(5, 5), span(5, 5), none},
		{span(6, 3), span(6, 3), none},
		{span(least, great), span(least, great), span(least, great)},
		{span(least, 0), span(0, great), none},
		{span(least, 1), span(0, great), span(0, 1)},
		{span(least, least+1), span(great-1, great), none},
	}
	for _, c := range cases {
		if Meet(c.a, c.b) != c.want || Meet(c.b, c.a) != c.want {
			t.Error(c.a, c.b, Meet(c.a, c.b), Meet(c.b, c.a))
		}
	}
	for _, a := range allSpans() {
		for _, b := range allSpans() {
			checkMeet(t, a, b)
		}
	}
}

func checkMeet(t *testing.T, a, b api.Span) {
	got, shared := Meet(a, b), false
	for _, m := range ends {
		both := Holds(a, m) && Holds(b, m)
		shared = shared || both
		if Holds(got, m) != both {
			t.Fatal(a, b, got, m)
		}
	}
	if !shared && got != (api.Span{}) {
		t.Fatal(a, b, got)
	}
	// It begins and ends where one of them does.
	if shared && (got.From != a.From && got.From != b.From || got.To != a.To && got.To != b.To) {
		t.Fatal(a, b, got)
	}
}

// TestCovers: P7.1, empty spans, a span itself, one longer by a moment.
func TestCovers(t *testing.T) {
	cases := []struct {
		a, b api.Span
		want bool
	}{
		{span(3, 9), span(3, 9), true},
		{span(3, 9), span(4, 8), true},
		{span(3, 9), span(2, 9), false},
		{span(3, 9), span(3, 10), false},
		{span(3, 9), span(2, 10), false},
		{span(3, 9), span(9, 12), false},
		{span(3, 9), span(0, 3), false},
		{span(3, 9), span(20, 20), true},
		{span(3, 9), span(30, 20), true},
		{span(5, 5), span(7, 7), true},
		{span(5, 5), span(7, 6), true},
		{span(9, 3), span(4, 5), false},
		{span(9, 3), span(9, 3), true},
		{span(5, 5), span(5, 6), false},
		{span(5, 5), span(4, 5), false},
		{span(least, great), span(least, great), true},
		{span(least+1, great), span(least, great), false},
		{span(least, great-1), span(least, great), false},
	}
	for _, c := range cases {
		if Covers(c.a, c.b) != c.want {
			t.Error(c.a, c.b, !c.want)
		}
	}
	for _, a := range allSpans() {
		for _, b := range allSpans() {
			// What holds the first and the last moment of a span holds those between.
			want := b.From >= b.To || Holds(a, b.From) && Holds(a, b.To-1)
			if Covers(a, b) != want {
				t.Fatal(a, b, !want)
			}
		}
	}
}

// TestBucket: P7.2, below 0, at 0, about multiples, near both ends of the numbers.
func TestBucket(t *testing.T) {
	cases := []struct{ t, grain, want int64 }{
		{0, 5, 0}, {1, 5, 0}, {4, 5, 0}, {5, 5, 5}, {6, 5, 5}, {9, 5, 5}, {10, 5, 10},
		{-1, 5, -5}, {-4, 5, -5}, {-5, 5, -5}, {-6, 5, -10}, {-9, 5, -10}, {-10, 5, -10}, {-11, 5, -15},
		{7, 1, 7}, {-7, 1, -7}, {0, 1, 0}, {least, 1, least}, {great, 1, great},
		{least, 2, least}, {least + 1, 2, least}, {great, 2, great - 1},
		{least, 5, least}, {least + 1, 5, least}, {least + 2, 5, least}, {least + 3, 5, least + 3}, {least + 4, 5, least + 3}, {least + 8, 5, least + 8},
		{0, great, 0}, {great - 1, great, 0}, {great, great, great}, {-1, great, -great}, {-great, great, -great}, {least, great, least},
		{great, 1 << 62, 1 << 62}, {least, 1 << 62, least}, {-1, 1 << 62, -1 << 62},
	}
	for _, c := range cases {
		if got := Bucket(c.t, c.grain); got != c.want {
			t.Error(c, got)
		}
	}
	for _, m := range ends {
		for _, g := range grains {
			if got := Bucket(m, g); got != plainBucket(m, g) {
				t.Error(m, g, got)
			}
		}
	}
	thrown := stream(72)
	for range 20000 {
		m, g := thrownMoment(&thrown), thrownGrain(&thrown)
		if got := Bucket(m, g); got != plainBucket(m, g) {
			t.Fatal(m, g, got)
		}
	}
}

// TestBucketWrong: P7.2, of a grain that is none.
func TestBucketWrong(t *testing.T) {
	for _, m := range ends {
		for _, g := range noGrains {
			if got := Bucket(m, g); got != 0 {
				t.Error(m, g, got)
			}
		}
	}
}

// thrownMoment lies near 0, near either end, or anywhere.
func thrownMoment(thrown *stream) int64 {
	near := int64(thrown.below(30))
	switch thrown.below(4) {
	case 0:
		return near - 15
	case 1:
		return least + near
	case 2:
		return great - near
	}
	return int64(thrown.below(1<<31))<<33 ^ int64(thrown.below(1<<31))
}

func thrownGrain(thrown *stream) int64 {
	if thrown.below(3) > 0 {
		return grains[thrown.below(len(grains))]
	}
	return 1 + int64(thrown.below(1<<31))<<thrown.below(32)
}

// TestSplit: P7.3, where a span is cut.
func TestSplit(t *testing.T) {
	cases := []struct {
		s     api.Span
		grain int64
		want  []api.Span
	}{
		{span(5, 5), 5, nil},
		{span(6, 5), 5, nil},
		{span(great, least), 1, nil},
		{span(6, 9), 5, []api.Span{{From: 6, To: 9}}},
		{span(5, 10), 5, []api.Span{{From: 5, To: 10}}},
		{span(5, 11), 5, []api.Span{{From: 5, To: 10}, {From: 10, To: 11}}},
		{span(4, 10), 5, []api.Span{{From: 4, To: 5}, {From: 5, To: 10}}},
		{span(-6, 6), 5, []api.Span{{From: -6, To: -5}, {From: -5, To: 0}, {From: 0, To: 5}, {From: 5, To: 6}}},
		{span(-1, 1), 1, []api.Span{{From: -1, To: 0}, {From: 0, To: 1}}},
		{span(-1, 1), great, []api.Span{{From: -1, To: 0}, {From: 0, To: 1}}},
		{span(least, great), great, []api.Span{{From: least, To: -great}, {From: -great, To: 0}, {From: 0, To: great}}},
		{span(least, great), 1 << 62, []api.Span{{From: least, To: -1 << 62}, {From: -1 << 62, To: 0}, {From: 0, To: 1 << 62}, {From: 1 << 62, To: great}}},
		{span(least, least+4), 5, []api.Span{{From: least, To: least + 3}, {From: least + 3, To: least + 4}}},
		{span(great-3, great), 5, []api.Span{{From: great - 3, To: great - 2}, {From: great - 2, To: great}}},
		{span(great-1, great), great - 1, []api.Span{{From: great - 1, To: great}}},
	}
	for _, c := range cases {
		got, code := Split(c.s, c.grain)
		if code != api.OK || !slices.Equal(got, c.want) {
			t.Error(c, got, code)
		}
	}
	for _, s := range allSpans() {
		for _, g := range grains {
			checkSplit(t, s, g)
		}
	}
	thrown := stream(73)
	for range 5000 {
		checkSplit(t, span(thrownMoment(&thrown), thrownMoment(&thrown)), thrownGrain(&thrown))
	}
}

func checkSplit(t *testing.T, s api.Span, grain int64) {
	got, code := Split(s, grain)
	want, wantCode := plainSplit(s, grain)
	if code != wantCode || !slices.Equal(got, want) {
		t.Fatal(s, grain, len(got), code, len(want), wantCode)
	}
}

// TestSplitLimit: P7.3, 1000 parts may be, 1001 may not, however they lie.
func TestSplitLimit(t *testing.T) {
	cases := []struct {
		s     api.Span
		grain int64
		parts int
	}{
		{span(0, 999), 1, 999},
		{span(0, 1000), 1, 1000},
		{span(0, 1001), 1, 0},
		{span(0, 7000), 7, 1000},
		{span(0, 7001), 7, 0},
		{span(-1, 6993), 7, 1000},
		{span(-1, 6994), 7, 0},
		{span(6, 7000), 7, 1000},
		{span(6, 7001), 7, 0},
		{span(least, least+1000), 1, 1000},
		{span(least, least+1001), 1, 0},
		{span(great-1000, great), 1, 1000},
		{span(great-1001, great), 1, 0},
		{span(least, great), 1, 0},
		{span(least, great), 2, 0},
		{span(least, great), 1 << 53, 0},
		{span(least, great), 1 << 54, 0},
		{span(least, great), 1 << 55, 512},
		{span(least, 0), 1 << 53, 0},
		{span(least, 0), 1 << 54, 512},
	}
	for _, c := range cases {
		got, code := Split(c.s, c.grain)
		wantCode := api.OK
		if c.parts == 0 {
			wantCode = api.ErrArg
		}
		if code != wantCode || len(got) != c.parts {
			t.Error(c, len(got), code)
		}
		checkSplit(t, c.s, c.grain)
	}
}

// TestSplitWrong: P7.3, a grain below 1 is told of an empty span too.
func TestSplitWrong(t *testing.T) {
	for _, s := range allSpans() {
		for _, g := range noGrains {
			if got, code := Split(s, g); code != api.ErrArg || len(got) != 0 {
				t.Error(s, g, got, code)
			}
		}
	}
}

// TestSplitFollows: P7.5, each moment of a span is in just one of its parts, and those of a part are in one bucket.
func TestSplitFollows(t *testing.T) {
	thrown := stream(75)
	for range 3000 {
		from := thrownMoment(&thrown)
		s, grain := span(from, from+int64(thrown.below(60))), thrownGrain(&thrown)
		parts, code := Split(s, grain)
		if code != api.OK {
			t.Fatal(s, grain, code)
		}
		for m := s.From; m < s.To; m++ {
			holders := 0
			for _, part := range parts {
				if Holds(part, m) {
					holders++
					if Bucket(m, grain) != Bucket(part.From, grain) {
						t.Fatal("two buckets in a part", s, grain, part)
					}
				}
			}
			if holders != 1 {
				t.Fatal(s, grain, m, holders)
			}
		}
		if !slices.Equal(Union(parts), Union([]api.Span{s})) {
			t.Fatal(s, grain, parts)
		}
	}
}
