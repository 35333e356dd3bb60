package intake

import (
	"math"
	"testing"

	"gristmill/api"
)

// three is an intake with two batches (of 3 facts and of 1), two facts in none, and so many ahead of all.
func three(t *testing.T, ahead uint64) *Intake {
	t.Helper()
	x := begun(t, 10, ahead+1)
	takeAll(t, x, 15, 2, 16)
	expectSeal(t, x, batch(1, ahead, ahead+3, chunk(0, 10, 2), chunk(10, 20, 15, 16)))
	takeAll(t, x, 33)
	expectSeal(t, x, batch(2, ahead+3, ahead+4, chunk(30, 40, 33)))
	takeAll(t, x, 25, 1)
	return x
}

// TestBehindOffsets: P17.4, offsets within a batch, between two, behind the last one, and those at and beyond the edges.
func TestBehindOffsets(t *testing.T) {
	for _, ahead := range []uint64{0, 1, 7, 1 << 63, highest - 7} {
		x := three(t, ahead)
		all := timedAll(15, 2, 16, 33, 25, 1)
		for n := range len(all) + 1 {
			expectBehind(t, x, ahead+uint64(n), ahead+6, all[n:]...)
		}
		for _, above := range []uint64{ahead + 7, highest - 1, highest} {
			if above > ahead+6 {
				expectNotBehind(t, x, above, api.ErrGap)
			}
		}
		if ahead > 0 {
			expectNotBehind(t, x, ahead-1, api.ErrGone)
			expectNotBehind(t, x, 0, api.ErrGone)
		}
	}
}

// TestReleaseInOrder: P17.4, batch by batch, and what is behind each offset right after it.
func TestReleaseInOrder(t *testing.T) {
	const ahead = 5
	x := three(t, ahead)
	all := timedAll(15, 2, 16, 33, 25, 1)
	expectFrom := func(released int) {
		t.Helper()
		for n := range released {
			expectNotBehind(t, x, ahead+uint64(n), api.ErrGone)
		}
		expectNotBehind(t, x, 0, api.ErrGone)
		for n := released; n <= len(all); n++ {
			expectBehind(t, x, ahead+uint64(n), ahead+uint64(len(all)), all[n:]...)
		}
		expectNotBehind(t, x, ahead+uint64(len(all))+1, api.ErrGap)
		expectNext(t, x, ahead+uint64(len(all))+1)
	}
	expectFrom(0)
	expectCode(t, x.Release(1), api.OK)
	expectFrom(3)
	expectBatches(t, x.Batches(), batch(2, ahead+3, ahead+4, chunk(30, 40, 33)))
	expectCode(t, x.Release(2), api.OK)
	expectFrom(4)
	expectBatches(t, x.Batches())
	// Take and Seal go on.
	expectCode(t, x.Take(ahead+6, timed(8)), api.ErrOld)
	expectCode(t, x.Take(ahead+1, timed(8)), api.ErrOld)
	expectCode(t, x.Take(ahead+7, timed(8)), api.OK)
	all = append(all, timed(8))
	expectFrom(4)
	expectSeal(t, x, batch(3, ahead+4, ahead+7, chunk(0, 10, 1, 8), chunk(20, 30, 25)))
	expectFrom(4)
	expectCode(t, x.Release(3), api.OK)
	expectFrom(7)
	takeAll(t, x, 12)
	all = append(all, timed(12))
	expectFrom(7)
	expectSeal(t, x, batch(4, ahead+7, ahead+8, chunk(10, 20, 12)))
	expectFrom(7)
}

// TestReleaseErrors: P17.4, ErrNone of a number that isn't there, ErrBusy of one that isn't the first; nothing changes.
func TestReleaseErrors(t *testing.T) {
	x := three(t, 5)
	p := &plain{length: 10, start: 5, facts: timedAll(15, 2, 16, 33, 25, 1), ends: []uint64{8, 9}}
	expectRefused := func(number int, want api.Errno) {
		t.Helper()
		expectCode(t, x.Release(number), want)
		expectPlain(t, x, p)
	}
	for _, never := range []int{math.MinInt, -2, -1, 0, 3, 4, math.MaxInt} {
		expectRefused(never, api.ErrNone)
	}
	expectRefused(2, api.ErrBusy)
	expectCode(t, x.Release(1), api.OK)
	p.gone = 1
	for _, none := range []int{-1, 0, 1, 3} {
		expectRefused(none, api.ErrNone)
	}
	expectCode(t, x.Release(2), api.OK)
	p.gone = 2
	for _, none := range []int{-1, 0, 1, 2, 3} {
		expectRefused(none, api.ErrNone)
	}
	for n := range 4 {
		takeAll(t, x, int64(n))
		p.facts = append(p.facts, timed(int64(n)))
		if _, code := x.Seal(); code != api.OK {
			t.Fatal(code)
		}
		p.ends = append(p.ends, p.taken())
	}
	for _, later := range []int{4, 5, 6} {
		expectRefused(later, api.ErrBusy)
	}
	for _, none := range []int{2, 7} {
		expectRefused(none, api.ErrNone)
	}
	expectCode(t, x.Release(3), api.OK)
	p.gone = 3
	expectRefused(3, api.ErrNone)
	expectRefused(5, api.ErrBusy)
}
