package filter

import (
	"slices"
	"testing"

	"gristmill/api"
)

// plainNot is Not as the document's words say it.
func plainNot(f api.Filter) api.Filter {
	switch f.Kind {
	case api.FilterNot:
		return plainMade(f.Kids[0])
	case api.FilterAnd, api.FilterOr:
		out := api.Filter{Kind: api.FilterOr}
		if f.Kind == api.FilterOr {
			out.Kind = api.FilterAnd
		}
		for _, kid := range f.Kids {
			out.Kids = append(out.Kids, plainNot(kid))
		}
		return out
	}
	return not(clean(f))
}

// plainMade is a Kid "made so".
func plainMade(f api.Filter) api.Filter {
	switch f.Kind {
	case api.FilterNot:
		return plainNot(f.Kids[0])
	case api.FilterAnd, api.FilterOr:
		out := api.Filter{Kind: f.Kind}
		for _, kid := range f.Kids {
			out.Kids = append(out.Kids, plainMade(kid))
		}
		return out
	}
	return clean(f)
}

// expectNot looks at Not of a filter that Check takes: what it is, how deep, and that whoever changes it changes nothing else.
func expectNot(t *testing.T, f api.Filter) {
	t.Helper()
	was := deep(f)
	got := Not(f)
	want := plainNot(f)
	if !alike(got, want) {
		t.Fatalf("Not(%+v): %+v, not %+v", f, got, want)
	}
	if plainDepth(got) > plainDepth(f)+1 || plainSize(got) > 2*plainSize(f) {
		t.Fatalf("Not(%+v) is too deep or too great: %+v", f, got)
	}
	spoil(&got)
	if !alike(f, was) || !alike(Not(f), want) {
		t.Fatalf("changed by its answer: %+v, it was %+v", f, was)
	}
	handed := deep(f)
	got = Not(handed)
	spoil(&handed)
	if !alike(got, want) {
		t.Fatalf("changed by what was handed in: %+v, not %+v", got, want)
	}
}

// spoil changes all that can be changed of a filter, and what lies behind its lists' ends.
func spoil(f *api.Filter) {
	for at := range f.Kids {
		spoil(&f.Kids[at])
	}
	for at := range f.Texts {
		f.Texts[at] = "spoilt"
	}
	_, _ = append(f.Texts, "spoilt"), append(f.Kids, api.Filter{Kind: 777})
	f.Kind, f.Dim, f.Lo, f.Hi = 777, 777, 777, 777
}

// TestNotExample: P5.3, the document's example.
func TestNotExample(t *testing.T) {
	f := or(is(0, "a"), not(all()))
	if got := Not(f); !alike(got, and(not(is(0, "a")), all())) {
		t.Errorf("%+v", got)
	}
	expectNot(t, f)
}

// TestNot: P5.3, each kind, below each kind, and deep inside.
func TestNot(t *testing.T) {
	thrown := stream(33)
	a, b := is(0, "a"), meas(1, 2, 3)
	for _, c := range []struct{ f, want api.Filter }{
		{all(), not(all())},
		{is(1, "a", "b"), not(is(1, "a", "b"))},
		{is(1), not(is(1))},
		{between(1, "b", "a"), not(between(1, "b", "a"))},
		{begin(1, ""), not(begin(1, ""))},
		{meas(1, 3, 2), not(meas(1, 3, 2))},
		{not(a), a}, {not(b), b}, {not(all()), all()}, {not(between(0, "a", "b")), between(0, "a", "b")}, {not(begin(1, "a")), begin(1, "a")},
		{not(not(a)), not(a)}, {not(not(not(a))), a}, {not(not(not(not(a)))), not(a)},
		{and(), or()}, {or(), and()}, {not(and()), and()}, {not(or()), or()}, {not(not(and())), or()}, {not(not(or())), and()},
		{and(a, b), or(not(a), not(b))}, {or(b, a), and(not(b), not(a))},
		{and(not(a), b), or(a, not(b))}, {or(not(a), not(b)), and(a, b)},
		{and(or(a, b), or()), or(and(not(a), not(b)), and())},
		{not(and(a, not(b))), and(a, not(b))},
		{not(and(a, not(not(b)))), and(a, b)},
		{not(or(not(and(a, b)), a)), or(or(not(a), not(b)), a)},
		{not(or(not(or(a, not(b))), a)), or(and(not(a), b), a)},
		{not(and(or(and(not(not(not(a))))))), and(or(and(not(a))))},
		{not(not(and(or(a, not(b)), all()))), or(and(not(a), b), not(all()))},
		{and(not(and(a, not(or(b, a))))), or(and(a, and(not(b), not(a))))},
	} {
		for _, f := range []api.Filter{c.f, littered(c.f, &thrown)} {
			if got := Not(f); !alike(got, c.want) {
				t.Errorf("Not(%+v): %+v, not %+v", f, got, c.want)
			}
			expectNot(t, f)
		}
	}
}

// TestNotEdge: P5.3, P5.4, filters as great and as deep as may be: Not may be greater, and is at most 1 deeper.
func TestNotEdge(t *testing.T) {
	s := api.Schema{}
	for _, kind := range []int{api.FilterAnd, api.FilterOr} {
		f := wide(kind, 200)
		got := Not(f)
		if plainSize(got) != 399 || Size(got) != 201 || Check(s, f) != api.OK || Check(s, got) != api.ErrArg {
			t.Errorf("of 200 parts: %d", plainSize(got))
		}
		expectNot(t, f)
		deepest := chain(20, kind)
		got = Not(deepest)
		if plainDepth(got) != 21 || Check(s, deepest) != api.OK || Check(s, got) != api.ErrArg {
			t.Errorf("20 deep: %d", plainDepth(got))
		}
		expectNot(t, deepest)
		if back := Not(Not(f)); !Same(back, f) || !Same(Not(Not(deepest)), deepest) {
			t.Errorf("not back: %+v", back)
		}
	}
	if got := Not(chain(20, api.FilterNot)); !alike(got, all()) {
		t.Errorf("%+v", got)
	}
	if got := Not(chain(19, api.FilterNot)); !alike(got, not(all())) {
		t.Errorf("%+v", got)
	}
}

// TestNotStraight: P5.3, no FilterNot stands above a FilterNot, FilterAnd, FilterOr in what is answered.
func TestNotStraight(t *testing.T) {
	var look func(f api.Filter) bool
	look = func(f api.Filter) bool {
		if f.Kind == api.FilterNot && (len(f.Kids) != 1 || !slices.Contains(leaves, f.Kids[0].Kind)) {
			return false
		}
		return !slices.ContainsFunc(f.Kids, func(kid api.Filter) bool { return !look(kid) })
	}
	thrown := stream(77)
	for round := range 1000 {
		f := thrownFilter(&thrown, round%8)
		if got := Not(f); plainSize(f) <= 200 && (!look(got) || !look(Not(got))) {
			t.Fatalf("Not(%+v): %+v", f, got)
		}
	}
}

// TestNotApart: P5.3, no two parts of an answer share their lists, where those that were handed in did.
func TestNotApart(t *testing.T) {
	texts := []string{"a", "b"}
	kids := []api.Filter{is(0, texts...), between(0, texts...), is(0, texts[:1]...)}
	for _, f := range []api.Filter{and(or(kids...), and(kids...)), not(and(or(kids...), and(kids...)))} {
		got, want := Not(f), plainNot(f)
		spoil(&got.Kids[0])
		if !alike(got.Kids[1], want.Kids[1]) {
			t.Errorf("%+v", got)
		}
		got = Not(f)
		spoil(&got.Kids[1].Kids[0])
		if !alike(got.Kids[0], want.Kids[0]) || !alike(got.Kids[1].Kids[1], want.Kids[1].Kids[1]) || !alike(got.Kids[1].Kids[2], want.Kids[1].Kids[2]) {
			t.Errorf("%+v", got)
		}
	}
}

// TestWrong: P5.1 to P5.3, filters that Check refuses, also such as stand in themselves, and facts of other schemas: some answer.
func TestWrong(t *testing.T) {
	facts := []api.Fact{{}, {Dims: []string{"a"}}, {Meas: []int64{1}}, {Dims: []string{"a", "b"}, Meas: []int64{1, 2}}}
	filters := []api.Filter{
		{}, {Kind: 9}, {Kind: -1, Dim: -1}, not(), not(not()), not(all(), all()), and(not()), or(not(), not(not())), not(and(not())),
		is(-1, "a"), is(7, "a"), is(1, "a"), between(0), between(0, "a"), between(0, "a", "b", "c"), between(-1), begin(0), begin(0, "a", "b"), begin(9), meas(-1, 0, 9), meas(1, 0, 9), meas(99, 0, 9),
		wide(api.FilterAnd, 201), wide(api.FilterOr, 5000), chain(21, api.FilterNot), chain(1<<16, api.FilterNot), chain(1<<16, api.FilterAnd), doubled(8), doubled(60), not(doubled(60)),
		round(api.FilterAnd), round(api.FilterOr), round(api.FilterNot), not(round(api.FilterAnd)),
	}
	for _, f := range filters {
		if Check(api.Schema{Dims: 1, Meas: 1}, f) != api.ErrArg {
			t.Errorf("taken: %d", f.Kind)
		}
		for _, x := range facts {
			Holds(f, x)
		}
		Not(f)
		Same(f, f)
		Same(f, all())
		Same(all(), f)
		if n := Size(f); n < 1 || n > 201 {
			t.Errorf("Size: %d", n)
		}
	}
}

// TestKeptNothing: P5.2, the same calls have the same answers, whatever was asked between them.
func TestKeptNothing(t *testing.T) {
	thrown := stream(99)
	f, x := thrownFilter(&thrown, 5), thrownFact(&thrown)
	first, held := Not(f), Holds(f, x)
	for range 50 {
		g := thrownFilter(&thrown, 5)
		Not(g)
		Holds(g, x)
		Same(f, g)
	}
	if !alike(Not(f), first) || Holds(f, x) != held {
		t.Error("another answer")
	}
}
