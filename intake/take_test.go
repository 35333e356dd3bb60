package intake

import (
	"strings"
	"testing"

	"gristmill/api"
)

// TestTakeOffsets: P17.2, an offset below next, next, and above it; behind an error nothing has changed.
func TestTakeOffsets(t *testing.T) {
	for _, next := range []uint64{1, 2, 3, 1 << 32, 1 << 63, highest - 4} {
		x, p := begun(t, 10, next), &plain{length: 10, start: next - 1}
		for n := range uint64(3) {
			for _, old := range []uint64{0, 1, next - 1, next, next + n - 1} {
				if old < next+n {
					expectCode(t, x.Take(old, timed(5)), api.ErrOld)
				}
			}
			for _, early := range []uint64{next + n + 1, next + n + 2, highest - 1, highest} {
				if early > next+n {
					expectCode(t, x.Take(early, timed(5)), api.ErrGap)
				}
			}
			expectPlain(t, x, p)
			f := timed(int64(40 - 7*n))
			expectCode(t, x.Take(next+n, f), api.OK)
			p.facts = append(p.facts, f)
			expectPlain(t, x, p)
		}
	}
}

// TestTakeLast: P17.2, ErrLimit of 2^64 - 1 when it is waited for; the one ahead of it is taken.
func TestTakeLast(t *testing.T) {
	x := begun(t, 10, highest-1)
	expectCode(t, x.Take(highest, timed(5)), api.ErrGap)
	expectCode(t, x.Take(highest-1, timed(5)), api.OK)
	for range 2 {
		expectNext(t, x, highest)
		expectCode(t, x.Take(highest, timed(6)), api.ErrLimit)
		expectCode(t, x.Take(highest-1, timed(6)), api.ErrOld)
		expectCode(t, x.Take(0, timed(6)), api.ErrOld)
	}
	expectNotBehind(t, x, highest, api.ErrGap)
	expectBehind(t, x, highest-1, highest-1)
	expectBehind(t, x, highest-2, highest-1, timed(5))
	expectNotBehind(t, x, highest-3, api.ErrGone)
	expectSeal(t, x, batch(1, highest-2, highest-1, chunk(0, 10, 5)))
	expectCode(t, x.Take(highest, timed(6)), api.ErrLimit)
	expectNoSeal(t, x, api.ErrNone)
	expectCode(t, x.Release(1), api.OK)
	expectNotBehind(t, x, highest-2, api.ErrGone)
	expectBehind(t, x, highest-1, highest-1)

	x = begun(t, 10, highest)
	expectCode(t, x.Take(highest, timed(5)), api.ErrLimit)
	expectCode(t, x.Take(highest-1, timed(5)), api.ErrOld)
	expectPlain(t, x, &plain{length: 10, start: highest - 1})
	expectNoSeal(t, x, api.ErrNone)
}

// wrongFacts are facts that a schema of two dimensions and one measure refuses.
func wrongFacts() []api.Fact {
	two, one := []string{"a", "b"}, []int64{7}
	return []api.Fact{
		{Time: -1, Dims: two, Meas: one},
		{Time: least, Dims: two, Meas: one},
		{Time: most, Dims: two, Meas: one},
		{Time: most + 1, Dims: two, Meas: one},
		{Time: great, Dims: two, Meas: one},
		{Time: 5, Dims: two},
		{Time: 5, Dims: two, Meas: []int64{7, 8}},
		{Time: 5, Meas: one},
		{Time: 5, Dims: []string{"a"}, Meas: one},
		{Time: 5, Dims: []string{"a", "b", "c"}, Meas: one},
		{Time: 5, Dims: []string{"a", strings.Repeat("b", 65)}, Meas: one},
		{Time: -1},
	}
}

// rightFacts are some at the edges of what such a schema takes.
func rightFacts() []api.Fact {
	return []api.Fact{
		{Time: 0, Dims: []string{"", ""}, Meas: []int64{least}},
		{Time: most - 1, Dims: []string{"\xff\x00", strings.Repeat("b", 64)}, Meas: []int64{great}},
		{Time: 15, Dims: []string{"b", "a"}, Meas: []int64{0}},
	}
}

// TestTakeFacts: P17.2, fact.Check's error; nothing changes, and the offset can be taken by a fact that may be.
func TestTakeFacts(t *testing.T) {
	s := api.Schema{Dims: 2, Meas: 1}
	x, code := New(s, 10, 6)
	expectCode(t, code, api.OK)
	p := &plain{schema: s, length: 10, start: 5}
	for n, right := range rightFacts() {
		for _, wrong := range wrongFacts() {
			expectCode(t, x.Take(6+uint64(n), wrong), api.ErrFact)
			expectPlain(t, x, p)
		}
		expectCode(t, x.Take(6+uint64(n), right), api.OK)
		expectCode(t, p.take(6+uint64(n), right), api.OK)
		expectPlain(t, x, p)
	}
	b, code := x.Seal()
	expectCode(t, code, api.OK)
	want, _ := p.seal()
	expectBatches(t, []Batch{b}, want)
	expectNoSeal(t, x, api.ErrNone)
}

// TestTakeFirstError: P17.2, ErrOld, ErrGap and ErrLimit come ahead of what is wrong with the fact, and ErrGap ahead of ErrLimit.
func TestTakeFirstError(t *testing.T) {
	s := api.Schema{Dims: 2, Meas: 1}
	for _, wrong := range wrongFacts() {
		x, _ := New(s, 10, 6)
		expectCode(t, x.Take(5, wrong), api.ErrOld)
		expectCode(t, x.Take(0, wrong), api.ErrOld)
		expectCode(t, x.Take(7, wrong), api.ErrGap)
		expectCode(t, x.Take(highest, wrong), api.ErrGap)
		expectCode(t, x.Take(highest, rightFacts()[0]), api.ErrGap)
		expectCode(t, x.Take(6, wrong), api.ErrFact)
		expectPlain(t, x, &plain{schema: s, length: 10, start: 5})
		x, _ = New(s, 10, highest)
		expectCode(t, x.Take(highest, wrong), api.ErrLimit)
		expectCode(t, x.Take(highest-1, wrong), api.ErrOld)
		expectPlain(t, x, &plain{schema: s, length: 10, start: highest - 1})
	}
}
