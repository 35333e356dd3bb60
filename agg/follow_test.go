package agg

import (
	"slices"
	"testing"

	"gristmill/api"
)

// shuffled is a bag in another order.
func shuffled(thrown *stream, bag []api.Many) []api.Many {
	out := slices.Clone(bag)
	for at := range out {
		other := thrown.below(at + 1)
		out[at], out[other] = out[other], out[at]
	}
	return out
}

// TestThrown: P6.2, P6.3, P6.4, what is added and merged is what the document's words say of the facts, and may be.
func TestThrown(t *testing.T) {
	thrown := stream(66)
	s := api.Schema{Dims: 2, Meas: 2}
	for range 5000 {
		a := thrownAgg(&thrown)
		bag, other := thrownBag(&thrown), thrownBag(&thrown)
		p, q := plainHas(a, bag), plainHas(a, other)
		expect(t, a, added(a, bag), p)
		expect(t, a, added(a, shuffled(&thrown, bag)), p)
		both := plainHas(a, slices.Concat(bag, other))
		expect(t, a, Merge(a, p, q), both)
		if Value(a, both) != plainValue(a, both) || Check(s, []api.Agg{a}) != api.OK || !May(s, a, both) || !May(s, a, p) {
			t.Fatalf("%+v of %+v", a, both)
		}
	}
}

// TestMergeFollows: P6.4, Merge can be turned, put together otherwise, and Start changes nothing.
func TestMergeFollows(t *testing.T) {
	thrown := stream(77)
	for range 5000 {
		a := thrownAgg(&thrown)
		p, q, r := added(a, thrownBag(&thrown)), added(a, thrownBag(&thrown)), added(a, thrownBag(&thrown))
		expect(t, a, Merge(a, p, q), Merge(a, q, p))
		expect(t, a, Merge(a, Merge(a, p, q), r), Merge(a, p, Merge(a, q, r)))
		expect(t, a, Merge(a, p, Start(a)), p)
		expect(t, a, Merge(a, Start(a), p), p)
	}
}

// TestOneByOne: P6.4, to add facts one by one is to merge what each has; to add one n times is to add it once, n times.
func TestOneByOne(t *testing.T) {
	thrown := stream(88)
	for range 1000 {
		a := thrownAgg(&thrown)
		p := added(a, thrownBag(&thrown))
		f, n := thrownFact(&thrown), thrown.below(9)
		byOne, merged := p, p
		for range n {
			byOne = Add(a, byOne, f, 1)
			merged = Merge(a, merged, Add(a, Start(a), f, 1))
		}
		expect(t, a, byOne, Add(a, p, f, uint64(n)))
		expect(t, a, merged, byOne)
	}
}

// calls are all calls that answer a Partial of Partials.
func calls(a api.Agg, f api.Fact) map[string]func(p, q api.Partial) api.Partial {
	return map[string]func(p, q api.Partial) api.Partial{
		"Add":    func(p, q api.Partial) api.Partial { return Add(a, p, f, 3) },
		"Add 0":  func(p, q api.Partial) api.Partial { return Add(a, p, f, 0) },
		"Merge":  func(p, q api.Partial) api.Partial { return Merge(a, p, q) },
		"itself": func(p, q api.Partial) api.Partial { return Merge(a, p, p) },
	}
}

// TestApart: P6.2, what was handed in stays as it was, and answers are new memory, whichever side is empty.
func TestApart(t *testing.T) {
	thrown := stream(99)
	for range 2000 {
		a := thrownAgg(&thrown)
		f := thrownFact(&thrown)
		p, q := roomy(added(a, thrownBag(&thrown))), roomy(added(a, thrownBag(&thrown)))
		dims, measures := slices.Clone(f.Dims), slices.Clone(f.Meas)
		for name, call := range calls(a, f) {
			wasP, wasQ := deep(p), deep(q)
			spare := append(slices.Clone(p.Texts[:cap(p.Texts)]), q.Texts[:cap(q.Texts)]...)
			got := call(p, q)
			want := deep(got)
			if behind := append(slices.Clone(p.Texts[:cap(p.Texts)]), q.Texts[:cap(q.Texts)]...); !slices.Equal(behind, spare) {
				t.Fatalf("%s wrote behind the end of a list", name)
			}
			spoil(got.Texts)
			if !alike(p, wasP) || !alike(q, wasQ) || !slices.Equal(f.Dims, dims) || !slices.Equal(f.Meas, measures) {
				t.Fatalf("%s: changed what was handed in", name)
			}
			expect(t, a, call(p, q), want)
			handedP, handedQ := roomy(p), roomy(q)
			got = call(handedP, handedQ)
			spoil(handedP.Texts)
			spoil(handedQ.Texts)
			expect(t, a, got, want)
		}
	}
}

// TestApartFact: P6.2, what is answered doesn't hang on the fact's lists any more.
func TestApartFact(t *testing.T) {
	for _, kind := range kinds {
		a := api.Agg{Kind: kind}
		f := api.Fact{Dims: []string{"a"}, Meas: []int64{4}}
		got := Add(a, Start(a), f, 2)
		want := deep(got)
		f.Dims[0], f.Meas[0] = "spoilt", 777
		expect(t, a, got, want)
		spoil(got.Texts)
		if f.Dims[0] != "spoilt" || len(got.Texts) > 0 && &got.Texts[0] == &f.Dims[0] {
			t.Errorf("kind %d shares the fact's list", kind)
		}
	}
}

// TestWrong: P6.1 to P6.3, aggregators, facts and Partials that may not be: some answer, the same one each time.
func TestWrong(t *testing.T) {
	facts := []api.Fact{{}, {Dims: []string{"a"}}, {Meas: []int64{1}}, {Dims: []string{"a", "b"}, Meas: []int64{1, 2}}}
	partials := []api.Partial{{}, {N: 1}, {V: 1}, {N: most, V: least}, texts(0, "b", "a"), texts(1, "b", "a", "b"), texts(9, "d", "c", "b", "a", "a", "z"), texts(most, "a", "c")}
	for _, kind := range append(slices.Clone(noKinds), kinds...) {
		for _, col := range []int{least, -1, 0, 1, 2, great} {
			a := api.Agg{Kind: kind, Col: col}
			expect(t, a, Start(a), Start(a))
			for _, p := range partials {
				May(api.Schema{Dims: col, Meas: col}, a, p)
				if Value(a, p) != Value(a, p) {
					t.Errorf("%+v of %+v", a, p)
				}
				for _, q := range partials {
					expect(t, a, Merge(a, p, q), Merge(a, p, q))
				}
				for _, f := range facts {
					expect(t, a, Add(a, p, f, 2), Add(a, p, f, 2))
					expect(t, a, Add(a, p, f, 0), p)
				}
			}
		}
	}
}

// TestKeptNothing: P6.2, the same calls have the same answers, whatever was asked between them.
func TestKeptNothing(t *testing.T) {
	thrown := stream(111)
	a := api.Agg{Kind: api.AggDistinct}
	p, f := texts(9, "b", "d"), text("c")
	first := Add(a, p, f, 1)
	for range 100 {
		other := thrownAgg(&thrown)
		added(other, thrownBag(&thrown))
		Check(api.Schema{Dims: 2, Meas: 2}, []api.Agg{other})
	}
	expect(t, a, Add(a, p, f, 1), first)
	expect(t, a, first, texts(10, "b", "c", "d"))
}
