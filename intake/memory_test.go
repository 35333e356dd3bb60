package intake

import (
	"testing"

	"gristmill/api"
)

// rowed is an intake with a batch of two facts in one chunk, one in another, and a fact in no batch.
func rowed(t *testing.T) (*Intake, []api.Fact) {
	t.Helper()
	s := api.Schema{Dims: 2, Meas: 2}
	x, code := New(s, 10, 1)
	expectCode(t, code, api.OK)
	facts := rows()
	for n, f := range facts {
		expectCode(t, x.Take(uint64(n+1), f), api.OK)
		if n == 2 {
			if _, code := x.Seal(); code != api.OK {
				t.Fatal(code)
			}
		}
	}
	return x, facts
}

func rows() []api.Fact {
	return []api.Fact{
		{Time: 12, Dims: []string{"a", "b"}, Meas: []int64{1, 2}},
		{Time: 3, Dims: []string{"c", "d"}, Meas: []int64{3, 4}},
		{Time: 14, Dims: []string{"e", "f"}, Meas: []int64{5, 6}},
		{Time: 7, Dims: []string{"g", "h"}, Meas: []int64{7, 8}},
	}
}

func rowsPlain() *plain {
	return &plain{schema: api.Schema{Dims: 2, Meas: 2}, length: 10, facts: rows(), ends: []uint64{3}}
}

// spoil changes all that facts reach.
func spoil(facts []api.Fact) {
	for at := range facts {
		f := &facts[at]
		for n := range f.Dims {
			f.Dims[n] = "spoilt"
		}
		for n := range f.Meas {
			f.Meas[n] = -99
		}
		_ = append(f.Dims[:0], "x", "y", "z")
		_ = append(f.Meas[:0], 11, 12, 13)
		*f = api.Fact{Time: 77}
	}
}

func spoilBatch(b *Batch) {
	for at := range b.Chunks {
		spoil(b.Chunks[at].Facts)
		_ = append(b.Chunks[at].Facts, api.Fact{Time: 55})
		b.Chunks[at].Span = api.Span{From: 1, To: 2}
		b.Chunks[at].Facts = nil
	}
	_ = append(b.Chunks[:0], Chunk{})
	b.Number, b.From, b.To = 9, 9, 9
}

// TestHandedIn: P17.4, what is handed in isn't kept, and isn't changed.
func TestHandedIn(t *testing.T) {
	x, facts := rowed(t)
	for n, f := range rows() {
		if !alike(f, facts[n]) {
			t.Fatal("changed", facts[n])
		}
	}
	spoil(facts)
	expectPlain(t, x, rowsPlain())
	// One fact's rows, changed and handed in again and again, as by one who reads facts into the same memory.
	x, code := New(api.Schema{Dims: 1, Meas: 1}, 10, 1)
	expectCode(t, code, api.OK)
	f := api.Fact{Dims: make([]string, 1, 9), Meas: make([]int64, 1, 9)}
	for n, text := range []string{"a", "b", "c"} {
		f.Dims[0], f.Meas[0] = text, int64(n)
		expectCode(t, x.Take(uint64(n+1), f), api.OK)
	}
	for n, text := range []string{"a", "b", "c"} {
		facts, _, code := x.Behind(uint64(n))
		expectCode(t, code, api.OK)
		if facts[0].Dims[0] != text || facts[0].Meas[0] != int64(n) {
			t.Fatal(facts)
		}
	}
}

// TestSchemaIsOwn: P17.4, a schema that is changed behind New changes nothing.
func TestSchemaIsOwn(t *testing.T) {
	s := api.Schema{Dims: 1}
	x, code := New(s, 10, 1)
	expectCode(t, code, api.OK)
	s.Dims, s.Meas = 0, 3
	expectCode(t, x.Take(1, timed(1)), api.ErrFact)
	expectCode(t, x.Take(1, api.Fact{Dims: []string{"a"}}), api.OK)
}

// TestAnswered: P17.4, what is answered is new memory, the lists within, too.
func TestAnswered(t *testing.T) {
	x, _ := rowed(t)
	for range 3 {
		batches := x.Batches()
		for at := range batches {
			spoilBatch(&batches[at])
		}
		_ = append(batches[:0], Batch{}, Batch{})
		expectPlain(t, x, rowsPlain())
		for offset := range uint64(5) {
			facts, _, code := x.Behind(offset)
			expectCode(t, code, api.OK)
			spoil(facts)
			_ = append(facts, api.Fact{Time: 55})
			expectPlain(t, x, rowsPlain())
		}
	}
	b, code := x.Seal()
	expectCode(t, code, api.OK)
	p := rowsPlain()
	p.ends = append(p.ends, 4)
	expectBatches(t, []Batch{b}, p.batch(2))
	spoilBatch(&b)
	expectPlain(t, x, p)
}

// TestAnswersApart: P17.4, who changes one answer, or one list of an answer, changes no other one.
func TestAnswersApart(t *testing.T) {
	x, _ := rowed(t)
	p := rowsPlain()
	first, second := x.Batches(), x.Batches()
	behind, _, _ := x.Behind(0)
	again, _, _ := x.Behind(0)
	spoilBatch(&first[0])
	spoil(behind)
	expectBatches(t, second, p.batch(1))
	for n, f := range rows() {
		if !alike(again[n], f) {
			t.Fatal("changed", again[n])
		}
	}
	// Rows that are appended to don't run into the next ones.
	_ = append(second[0].Chunks[0].Facts, api.Fact{Time: 55})
	_ = append(second[0].Chunks[1].Facts[0].Dims, "x")
	_ = append(again[0].Dims, "x")
	_ = append(again[0].Meas, 9)
	expectBatches(t, second, p.batch(1))
	for n, f := range rows() {
		if !alike(again[n], f) {
			t.Fatal("run into", again[n])
		}
	}
	// What is taken, sealed and released later changes no answer of before.
	told := x.Batches()
	facts, _, _ := x.Behind(1)
	expectCode(t, x.Take(5, rows()[0]), api.OK)
	x.Seal()
	expectCode(t, x.Release(1), api.OK)
	expectCode(t, x.Release(2), api.OK)
	expectBatches(t, told, p.batch(1))
	for n, f := range rows()[1:] {
		if !alike(facts[n], f) {
			t.Fatal("changed", facts[n])
		}
	}
}
