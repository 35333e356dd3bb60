package fact

import (
	"math"
	"slices"
	"strings"
	"testing"

	"gristmill/api"
)

// stream tells numbers that look thrown, the same ones at each run.
type stream uint64

func (s *stream) below(n int) int {
	*s = *s*6364136223846793005 + 1442695040888963407
	return int(uint64(*s) >> 31 % uint64(n))
}

// thrownFact is made of few times, texts and numbers, so that facts are often alike, or part in one place only.
func thrownFact(thrown *stream) api.Fact {
	texts := []string{"", "a", "ab", "b", "\xff"}
	numbers := []int64{math.MinInt64, -1, 0, 1}
	f := api.Fact{Time: int64(thrown.below(4)) - 1}
	for range thrown.below(3) {
		f.Dims = append(f.Dims, texts[thrown.below(len(texts))])
	}
	for range thrown.below(3) {
		f.Meas = append(f.Meas, numbers[thrown.below(len(numbers))])
	}
	return f
}

func dims(texts ...string) api.Fact { return api.Fact{Dims: texts} }

func meas(numbers ...int64) api.Fact { return api.Fact{Meas: numbers} }

// rising are unlike facts, each above the one ahead of it.
func rising() []api.Fact {
	return []api.Fact{
		{Time: math.MinInt64, Dims: []string{"z"}, Meas: []int64{9}},
		{Time: -1, Dims: []string{"z"}, Meas: []int64{9}},
		{},
		meas(math.MinInt64),
		meas(math.MinInt64, math.MinInt64),
		meas(-2),
		meas(-1),
		meas(-1, 5),
		meas(0),
		meas(0, -1),
		meas(0, 0),
		meas(0, 0, -7),
		meas(1, -1),
		meas(9),
		meas(10),
		meas(math.MaxInt64),
		dims(""),
		{Dims: []string{""}, Meas: []int64{-3}},
		{Dims: []string{""}, Meas: []int64{-3, 0}},
		dims("", ""),
		dims("", "a"),
		dims("\x00"),
		dims("10"),
		dims("9"),
		dims("B"),
		dims("a"),
		{Dims: []string{"a"}, Meas: []int64{3}},
		dims("a", ""),
		dims("a", "", ""),
		dims("a", "b"),
		dims("a", "b", "a"),
		dims("a\x00"),
		dims("aa"),
		dims("ab"),
		dims("ab", "a"),
		dims("b", "a"),
		dims("z\u00e4"),
		dims("\x7f"),
		dims("\x80"),
		dims("\u00e4"),
		dims("\xff"),
		dims("\xff\xff"),
		{Time: 1},
		{Time: 2, Dims: []string{"a"}, Meas: []int64{-1}},
		{Time: api.MaxTime - 1},
		{Time: api.MaxTime},
		{Time: math.MaxInt64},
	}
}

// TestFine: P4.1, schemas of so many dimensions and measures.
func TestFine(t *testing.T) {
	may := map[int]bool{0: true, 1: true, 7: true, 8: true}
	counts := []int{math.MinInt, -9, -1, 0, 1, 7, 8, 9, 10, 256, math.MaxInt}
	for _, d := range counts {
		for _, m := range counts {
			want := api.ErrArg
			if may[d] && may[m] {
				want = api.OK
			}
			if got := Fine(api.Schema{Dims: d, Meas: m}); got != want {
				t.Errorf("Fine of %d and %d: %d, not %d", d, m, got, want)
			}
		}
	}
}

// fitting is a fact that a schema asks for.
func fitting(s api.Schema) api.Fact {
	return api.Fact{Time: 5, Dims: slices.Repeat([]string{"a"}, s.Dims), Meas: slices.Repeat([]int64{-1}, s.Meas)}
}

func expectCheck(t *testing.T, s api.Schema, f api.Fact, want api.Errno) {
	t.Helper()
	if got := Check(s, f); got != want {
		t.Errorf("Check(%+v, %+v): %d, not %d", s, f, got, want)
	}
}

// TestCheckTime: P4.1, the edges of times.
func TestCheckTime(t *testing.T) {
	for _, s := range []api.Schema{{}, {Dims: 2, Meas: 3}} {
		for time, want := range map[int64]api.Errno{
			math.MinInt64: api.ErrFact, -1: api.ErrFact, 0: api.OK, 1: api.OK, 1 << 39: api.OK,
			1<<40 - 1: api.OK, 1 << 40: api.ErrFact, 1<<40 + 1: api.ErrFact, math.MaxInt64: api.ErrFact,
		} {
			f := fitting(s)
			f.Time = time
			expectCheck(t, s, f, want)
		}
	}
}

// TestCheckCounts: P4.1, just as many dimensions and measures as the schema tells.
func TestCheckCounts(t *testing.T) {
	for d := range api.MaxDims + 1 {
		for m := range api.MaxMeas + 1 {
			s := api.Schema{Dims: d, Meas: m}
			f := fitting(s)
			expectCheck(t, s, f, api.OK)
			expectCheck(t, s, api.Fact{Dims: append(slices.Clone(f.Dims), ""), Meas: f.Meas}, api.ErrFact)
			expectCheck(t, s, api.Fact{Dims: f.Dims, Meas: append(slices.Clone(f.Meas), 0)}, api.ErrFact)
			if d > 0 {
				expectCheck(t, s, api.Fact{Dims: f.Dims[1:], Meas: f.Meas}, api.ErrFact)
				expectCheck(t, s, api.Fact{Meas: f.Meas}, api.ErrFact)
			}
			if m > 0 {
				expectCheck(t, s, api.Fact{Dims: f.Dims, Meas: f.Meas[1:]}, api.ErrFact)
				expectCheck(t, s, api.Fact{Dims: f.Dims}, api.ErrFact)
			}
		}
	}
	expectCheck(t, api.Schema{}, api.Fact{Dims: []string{}, Meas: []int64{}}, api.OK)
}

// TestCheckTexts: P4.1, a dimension of MaxText bytes, and of one more, at each place.
func TestCheckTexts(t *testing.T) {
	most := strings.Repeat("x", api.MaxText)
	for many := 1; many <= api.MaxDims; many++ {
		s := api.Schema{Dims: many}
		for at := range many {
			for text, want := range map[string]api.Errno{
				"": api.OK, "\xff\x00": api.OK, most: api.OK, strings.Repeat("\u00e4", 32): api.OK,
				most + "x": api.ErrFact, strings.Repeat("\u00e4", 33): api.ErrFact, most + most: api.ErrFact,
			} {
				f := fitting(s)
				f.Dims[at] = text
				expectCheck(t, s, f, want)
			}
		}
	}
}

// TestCheckMeas: P4.1, measures may be any numbers.
func TestCheckMeas(t *testing.T) {
	expectCheck(t, api.Schema{Meas: 5}, meas(math.MinInt64, -1, 0, 1, math.MaxInt64), api.OK)
}

// TestCheckSchemaFirst: P4.1, what is wrong with the schema goes ahead of what is wrong with the fact.
func TestCheckSchemaFirst(t *testing.T) {
	for _, s := range []api.Schema{{Dims: -1}, {Dims: 9}, {Meas: -1}, {Meas: 9}, {Dims: math.MaxInt, Meas: math.MinInt}} {
		for _, f := range []api.Fact{
			{}, {Time: -1}, {Time: api.MaxTime}, dims(strings.Repeat("x", 99)), meas(1, 2),
			fitting(api.Schema{Dims: 9}), fitting(api.Schema{Meas: 9}),
		} {
			expectCheck(t, s, f, api.ErrArg)
		}
	}
}

// TestCheckKeeps: P4.1, what is looked at stays as it was.
func TestCheckKeeps(t *testing.T) {
	f := api.Fact{Time: 1, Dims: []string{"b", "a"}, Meas: []int64{2, 1}}
	Check(api.Schema{Dims: 2, Meas: 2}, f)
	Compare(f, dims("a"))
	if f.Time != 1 || !slices.Equal(f.Dims, []string{"b", "a"}) || !slices.Equal(f.Meas, []int64{2, 1}) {
		t.Errorf("changed: %+v", f)
	}
}

// TestCompareExamples: P4.1, the document's examples.
func TestCompareExamples(t *testing.T) {
	if got := Compare(api.Fact{Time: 1}, api.Fact{Time: 2}); got != -1 {
		t.Errorf("Time 1 and Time 2: %d", got)
	}
	if got := Compare(dims("a"), dims("a", "b")); got != -1 {
		t.Errorf("a and a, b: %d", got)
	}
}

// TestCompare: P4.1, P4.3, each fact of a rising row against each other one.
func TestCompare(t *testing.T) {
	facts := rising()
	for i, a := range facts {
		for j, b := range facts {
			want := 0
			if i < j {
				want = -1
			}
			if i > j {
				want = 1
			}
			if got := Compare(a, b); got != want {
				t.Errorf("Compare(%+v, %+v): %d, not %d", a, b, got, want)
			}
		}
	}
}

// TestCompareLists: P4.1, nil and empty lists are one.
func TestCompareLists(t *testing.T) {
	none := []api.Fact{{}, dims(), meas(), {Dims: []string{}, Meas: []int64{}}}
	for _, a := range none {
		for _, b := range none {
			if got := Compare(a, b); got != 0 {
				t.Errorf("Compare(%+v, %+v): %d", a, b, got)
			}
		}
		if Compare(a, dims("")) != -1 || Compare(dims(""), a) != 1 || Compare(a, meas(math.MinInt64)) != -1 || Compare(meas(math.MinInt64), a) != 1 {
			t.Errorf("%+v isn't below what has one more", a)
		}
	}
}

func alike(a, b api.Fact) bool {
	return a.Time == b.Time && slices.Equal(a.Dims, b.Dims) && slices.Equal(a.Meas, b.Meas)
}

// TestOrder: P4.3, the order is one.
func TestOrder(t *testing.T) {
	thrown := stream(4)
	for range 200000 {
		a, b, c := thrownFact(&thrown), thrownFact(&thrown), thrownFact(&thrown)
		ab, ba, bc, ac := Compare(a, b), Compare(b, a), Compare(b, c), Compare(a, c)
		if ab != -ba || ab < -1 || ab > 1 || (ab == 0) != alike(a, b) {
			t.Fatalf("%+v, %+v: %d, turned %d", a, b, ab, ba)
		}
		if ab == -1 && bc == -1 && ac != -1 {
			t.Fatalf("%+v, %+v, %+v: %d, %d, %d", a, b, c, ab, bc, ac)
		}
	}
}
