package intake

import (
	"testing"

	"gristmill/api"
)

// TestSealEdges: P17.3, which chunks there are, with the edges of spans.
func TestSealEdges(t *testing.T) {
	for _, c := range []struct {
		length int64
		times  []int64
		want   []Chunk
	}{
		{10, []int64{7}, []Chunk{chunk(0, 10, 7)}},
		{10, []int64{0}, []Chunk{chunk(0, 10, 0)}},
		{10, []int64{9, 10, 11}, []Chunk{chunk(0, 10, 9), chunk(10, 20, 10, 11)}},
		{10, []int64{31, 30, 29}, []Chunk{chunk(20, 30, 29), chunk(30, 40, 31, 30)}},
		{10, []int64{35, 5, 25, 15}, []Chunk{chunk(0, 10, 5), chunk(10, 20, 15), chunk(20, 30, 25), chunk(30, 40, 35)}},
		{10, []int64{14, 3, 12, 9, 19, 3, 10}, []Chunk{chunk(0, 10, 3, 9, 3), chunk(10, 20, 14, 12, 19, 10)}},
		{10, []int64{4, 4, 4}, []Chunk{chunk(0, 10, 4, 4, 4)}},
		{10, []int64{1000, 0}, []Chunk{chunk(0, 10, 0), chunk(1000, 1010, 1000)}},
		{1, []int64{1, 0, 2, 1}, []Chunk{chunk(0, 1, 0), chunk(1, 2, 1, 1), chunk(2, 3, 2)}},
		{1, []int64{most - 1, most - 2}, []Chunk{chunk(most-2, most-1, most-2), chunk(most-1, most, most-1)}},
		// 2^40 is no multiple of 10, nor of 2^40 - 1: the last span ends with the times.
		{10, []int64{most - 1, most - 6, most - 7}, []Chunk{chunk(most-16, most-6, most-7), chunk(most-6, most, most-1, most-6)}},
		{most - 1, []int64{most - 1, most - 2, 0}, []Chunk{chunk(0, most-1, most-2, 0), chunk(most-1, most, most-1)}},
		{most/2 + 1, []int64{most - 1, most/2 + 1, most / 2}, []Chunk{chunk(0, most/2+1, most/2), chunk(most/2+1, most, most-1, most/2+1)}},
		// 2^40 is a multiple of 16: the last span ends with the times by itself.
		{16, []int64{most - 1, most - 16, most - 17}, []Chunk{chunk(most-32, most-16, most-17), chunk(most-16, most, most-1, most-16)}},
		{most / 2, []int64{most - 1, most / 2, most/2 - 1}, []Chunk{chunk(0, most/2, most/2-1), chunk(most/2, most, most-1, most/2)}},
		{most, []int64{most - 1, 0, most / 2}, []Chunk{chunk(0, most, most-1, 0, most/2)}},
	} {
		x := begun(t, c.length, 1)
		takeAll(t, x, c.times...)
		want := batch(1, 0, uint64(len(c.times)), c.want...)
		expectSeal(t, x, want)
		expectBatches(t, x.Batches(), want)
		expectBehind(t, x, 0, want.To, timedAll(c.times...)...)
	}
}

// TestSealNothing: P17.3, ErrNone of no fact behind the last batch, which changes nothing, the next number neither.
func TestSealNothing(t *testing.T) {
	x := begun(t, 10, 1)
	for range 3 {
		expectNoSeal(t, x, api.ErrNone)
	}
	expectCode(t, x.Take(1, timed(-1)), api.ErrFact)
	expectCode(t, x.Take(2, timed(1)), api.ErrGap)
	expectNoSeal(t, x, api.ErrNone)
	takeAll(t, x, 4)
	first := batch(1, 0, 1, chunk(0, 10, 4))
	expectSeal(t, x, first)
	for range 3 {
		expectNoSeal(t, x, api.ErrNone)
		expectBatches(t, x.Batches(), first)
	}
	expectCode(t, x.Release(1), api.OK)
	expectNoSeal(t, x, api.ErrNone)
	takeAll(t, x, 5)
	expectSeal(t, x, batch(2, 1, 2, chunk(0, 10, 5)))
}

// TestSealSeveral: P17.3, batch behind batch, each with its own chunks, from a next above 1 on.
func TestSealSeveral(t *testing.T) {
	for _, ahead := range []uint64{0, 1, 41, 1 << 63, highest - 7} {
		x := begun(t, 10, ahead+1)
		takeAll(t, x, 15, 2)
		first := batch(1, ahead, ahead+2, chunk(0, 10, 2), chunk(10, 20, 15))
		expectSeal(t, x, first)
		takeAll(t, x, 11, 3, 12)
		second := batch(2, ahead+2, ahead+5, chunk(0, 10, 3), chunk(10, 20, 11, 12))
		expectBatches(t, x.Batches(), first)
		expectSeal(t, x, second)
		takeAll(t, x, 99)
		third := batch(3, ahead+5, ahead+6, chunk(90, 100, 99))
		expectSeal(t, x, third)
		expectBatches(t, x.Batches(), first, second, third)
		expectNext(t, x, ahead+7)
	}
}

// TestNumbers: P17.3, numbers go on behind releases, of all batches too, and Batches are those that weren't released.
func TestNumbers(t *testing.T) {
	x := begun(t, 10, 1)
	for n := range 40 {
		takeAll(t, x, int64(n))
		from := int64(n / 10 * 10)
		b := batch(n+1, uint64(n), uint64(n+1), chunk(from, from+10, int64(n)))
		expectSeal(t, x, b)
		expectBatches(t, x.Batches(), b)
		expectCode(t, x.Release(n+1), api.OK)
		expectBatches(t, x.Batches())
	}
	takeAll(t, x, 7)
	first := batch(41, 40, 41, chunk(0, 10, 7))
	expectSeal(t, x, first)
	takeAll(t, x, 8)
	second := batch(42, 41, 42, chunk(0, 10, 8))
	expectSeal(t, x, second)
	expectBatches(t, x.Batches(), first, second)
	expectCode(t, x.Release(41), api.OK)
	expectBatches(t, x.Batches(), second)
	takeAll(t, x, 9)
	third := batch(43, 42, 43, chunk(0, 10, 9))
	expectSeal(t, x, third)
	expectBatches(t, x.Batches(), second, third)
}

// TestManyChunks: P17.3, by rising times, however many there are and however they came.
func TestManyChunks(t *testing.T) {
	const many = 3000
	x := begun(t, 10, 1)
	// 1009 is coprime to many, so that each span is met, and met twice.
	for n := range int64(2 * many) {
		takeAll(t, x, n*1009%many*10+n/many)
	}
	b, code := x.Seal()
	expectCode(t, code, api.OK)
	if len(b.Chunks) != many || b.From != 0 || b.To != 2*many {
		t.Fatal(len(b.Chunks), b.From, b.To)
	}
	for at, c := range b.Chunks {
		from := int64(at) * 10
		if !sameChunk(c, chunk(from, from+10, from, from+1)) {
			t.Fatal(at, c)
		}
	}
}
