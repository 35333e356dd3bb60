package intake

import (
	"math"
	"testing"

	"gristmill/api"
)

func expectNoIntake(t *testing.T, s api.Schema, length int64, next uint64) {
	t.Helper()
	if x, code := New(s, length, next); code != api.ErrArg || x != nil {
		t.Fatal(s, length, next, x, code)
	}
}

// TestNewEdges: P17.1, schemas, chunks and nexts that may be, and those that may not be, each for one reason and for several.
func TestNewEdges(t *testing.T) {
	right := []api.Schema{{}, {Dims: 8}, {Meas: 8}, {Dims: 8, Meas: 8}, {Dims: 1, Meas: 2}}
	wrong := []api.Schema{{Dims: -1}, {Meas: -1}, {Dims: 9}, {Meas: 9}, {Dims: math.MinInt, Meas: math.MaxInt}, {Dims: 8, Meas: 9}}
	for _, next := range []uint64{1, 2, 1 << 63, highest - 1, highest} {
		for _, length := range []int64{1, 2, 10, most - 1, most} {
			for _, s := range right {
				x, code := New(s, length, next)
				if code != api.OK || x == nil {
					t.Fatal(s, length, next, code)
				}
				expectNoIntake(t, s, length, 0)
			}
			for _, s := range wrong {
				expectNoIntake(t, s, length, next)
				expectNoIntake(t, s, length, 0)
			}
		}
		for _, length := range []int64{-1, 0, most + 1, least, great} {
			for _, s := range append(right, wrong...) {
				expectNoIntake(t, s, length, next)
				expectNoIntake(t, s, length, 0)
			}
		}
	}
}

// TestBegun: P17.1, a new intake has no facts and no batches, and waits for next; released is next less 1.
func TestBegun(t *testing.T) {
	for _, next := range []uint64{1, 2, 3, 1 << 40, highest - 1, highest} {
		x := begun(t, 10, next)
		expectNext(t, x, next)
		expectBatches(t, x.Batches())
		expectNoSeal(t, x, api.ErrNone)
		expectBehind(t, x, next-1, next-1)
		expectNotBehind(t, x, next, api.ErrGap)
		expectNotBehind(t, x, highest, api.ErrGap)
		if next > 1 {
			expectNotBehind(t, x, next-2, api.ErrGone)
			expectNotBehind(t, x, 0, api.ErrGone)
		}
		for _, number := range []int{math.MinInt, -1, 0, 1, 2, math.MaxInt} {
			expectCode(t, x.Release(number), api.ErrNone)
		}
		expectPlain(t, x, &plain{length: 10, start: next - 1})
	}
}

// TestApart: P17.1, intakes know nothing of each other.
func TestApart(t *testing.T) {
	x, y := begun(t, 10, 1), begun(t, 10, 1)
	takeAll(t, x, 1, 2)
	expectNext(t, y, 1)
	expectNoSeal(t, y, api.ErrNone)
	expectSeal(t, x, batch(1, 0, 2, chunk(0, 10, 1, 2)))
	expectBatches(t, y.Batches())
	expectCode(t, y.Release(1), api.ErrNone)
	takeAll(t, y, 15)
	expectSeal(t, y, batch(1, 0, 1, chunk(10, 20, 15)))
	expectBehind(t, x, 0, 2, timedAll(1, 2)...)
}

// TestNil: P17.1, of nil: ErrArg, 0, nothing, whatever is asked; so is one that New didn't make.
func TestNil(t *testing.T) {
	for _, x := range []*Intake{nil, {}} {
		for _, offset := range []uint64{0, 1, 2, highest - 1, highest} {
			for _, f := range []api.Fact{timed(0), timed(-1), {Dims: []string{"a"}}, timed(most)} {
				expectCode(t, x.Take(offset, f), api.ErrArg)
			}
			expectNotBehind(t, x, offset, api.ErrArg)
		}
		expectNext(t, x, 0)
		expectNoSeal(t, x, api.ErrArg)
		expectBatches(t, x.Batches())
		for _, number := range []int{math.MinInt, -1, 0, 1, math.MaxInt} {
			expectCode(t, x.Release(number), api.ErrArg)
		}
	}
}

// TestExamples: the chapter's table.
func TestExamples(t *testing.T) {
	x := begun(t, 10, 3)
	expectCode(t, x.Take(3, timed(15)), api.OK)
	expectCode(t, x.Take(4, timed(2)), api.OK)
	expectCode(t, x.Take(4, timed(9)), api.ErrOld)
	expectCode(t, x.Take(6, timed(1)), api.ErrGap)
	expectCode(t, x.Take(5, timed(-1)), api.ErrFact)

	expectSeal(t, x, batch(1, 2, 4, chunk(0, 10, 2), chunk(10, 20, 15)))
	expectNoSeal(t, x, api.ErrNone)

	expectCode(t, x.Take(5, timed(7)), api.OK)
	expectBehind(t, x, 3, 5, timedAll(2, 7)...)
	expectNotBehind(t, x, 1, api.ErrGone)
	expectNotBehind(t, x, 6, api.ErrGap)

	expectCode(t, x.Release(2), api.ErrNone)
	expectCode(t, x.Release(1), api.OK)
	expectNotBehind(t, x, 3, api.ErrGone)
	expectBehind(t, x, 4, 5, timed(7))
}
