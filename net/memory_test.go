package net

import (
	"reflect"
	"testing"

	"gristmill/api"
)

// TestFull: the message of these tests has something everywhere, in all that api.Msg has.
func TestFull(t *testing.T) {
	m := full(1)
	if len(m.Fact.Dims)*len(m.Fact.Meas)*len(m.Segs)*len(m.Query.Aggs) != 16 {
		t.Fatalf("%+v", m)
	}
	if len(m.Query.Sets[1])*len(m.Query.Filter.Texts)*len(m.Query.Filter.Kids[1].Kids[1].Texts) != 8 {
		t.Fatalf("%+v", m)
	}
	if len(m.Groups[1].Key.Dims)*len(m.Groups[1].Parts[1].Texts) != 4 {
		t.Fatalf("%+v", m)
	}
	spoilt := full(1)
	spoil(&spoilt)
	if !alike(m, full(1)) || alike(m, full(2)) || alike(m, spoilt) {
		t.Fatal("can't tell messages apart")
	}
}

// TestTold: P18.1, all that a message has is told, each list as it was.
func TestTold(t *testing.T) {
	n := New()
	n.Send(full(1))
	n.Send(api.Msg{})
	n.Send(full(1000))
	expectWaiting(t, n, with(full(1), 1), api.Msg{Id: 2}, with(full(1000), 3))
	m, there := n.Deliver(2)
	expectTold(t, m, there, with(full(1000), 3))
	m, there = n.Deliver(0)
	expectTold(t, m, there, with(full(1), 1))
}

// TestHandedIn: P18.1, what is handed in isn't changed, and isn't kept.
func TestHandedIn(t *testing.T) {
	n := New()
	m := full(1)
	n.Send(m)
	n.Twice(0)
	n.Peek(0)
	n.Deliver(0)
	if !reflect.DeepEqual(m, full(1)) {
		t.Fatal("changed")
	}
	spoil(&m)
	expectWaiting(t, n, with(full(1), 1))
	got, there := n.Deliver(0)
	expectTold(t, got, there, with(full(1), 1))
	// Each sending of one message has lists of its own.
	m = full(2)
	n.Send(m)
	m.Fact.Dims[0], m.Groups[0].Parts[0].Texts[1] = "other", "other"
	n.Send(m)
	expectWaiting(t, n, with(full(2), 2), with(m, 3))
}

// TestPeeked: P18.1, who changes what Peek told changes nothing else.
func TestPeeked(t *testing.T) {
	n := New()
	n.Send(full(1))
	first, _ := n.Peek(0)
	again, _ := n.Peek(0)
	for range 3 {
		spoil(&first)
		if !alike(again, with(full(1), 1)) {
			t.Fatal("shared with another answer")
		}
		first, _ = n.Peek(0)
		expectWaiting(t, n, with(full(1), 1))
	}
	m, there := n.Deliver(0)
	spoil(&first)
	expectTold(t, m, there, with(full(1), 1))
}

// TestDelivered: P18.1, who changes one of several doubles, or what was told ahead of it, changes no other one.
func TestDelivered(t *testing.T) {
	n := New()
	n.Send(full(1))
	for range 3 {
		expectTrue(t, n.Twice(0))
	}
	want := with(full(1), 1)
	peeked, _ := n.Peek(2)
	first, _ := n.Deliver(0)
	second, _ := n.Deliver(2)
	spoil(&first)
	expectWaiting(t, n, want, want)
	if !alike(peeked, want) || !alike(second, want) {
		t.Fatal("shared")
	}
	spoil(&second)
	spoil(&peeked)
	expectWaiting(t, n, want, want)
	expectTrue(t, n.Twice(0))
	expectWaiting(t, n, want, want, want)
}

// TestSharedWithin: P18.1, lists that are one when they are handed in are told as lists of their own.
func TestSharedWithin(t *testing.T) {
	texts := make([]string, 2, 9)
	texts[0], texts[1] = "a", "b"
	kids := []api.Filter{{Texts: texts}, {Texts: texts[:1]}}
	set := []int{1, 2}
	m := api.Msg{
		Fact:   api.Fact{Dims: texts},
		Query:  api.Query{Filter: api.Filter{Texts: texts, Kids: []api.Filter{{Kids: kids}, {Kids: kids}}}, Sets: [][]int{set, set[:1], set}},
		Groups: []api.Group{{Key: api.Key{Dims: texts}, Parts: []api.Partial{{Texts: texts}, {Texts: texts}}}},
	}
	n := New()
	n.Send(m)
	got, there := n.Peek(0)
	expectTold(t, got, there, with(m, 1))
	want, _ := n.Peek(0)
	for _, change := range []func(m *api.Msg){
		func(m *api.Msg) { m.Fact.Dims[0] = "x" },
		func(m *api.Msg) { m.Query.Filter.Kids[1].Kids[0].Texts[0] = "x" },
		func(m *api.Msg) { m.Query.Filter.Kids[0].Kids[1].Texts = nil },
		func(m *api.Msg) { m.Query.Sets[1][0] = 9 },
		func(m *api.Msg) { m.Groups[0].Parts[1].Texts[1] = "x" },
		func(m *api.Msg) { m.Groups[0].Key.Dims[1] = "x" },
	} {
		// What changes is the one list alone: the same change of a message without a list shared makes them alike.
		change(&got)
		apart := unshared(want)
		change(&apart)
		if !alike(got, apart) {
			t.Fatalf("%+v, not %+v", got, apart)
		}
		got, _ = n.Peek(0)
	}
	_ = append(got.Fact.Dims, "x")
	_ = append(got.Query.Sets[0], 9)
	_ = append(got.Query.Filter.Kids[0].Kids, api.Filter{})
	expectTold(t, got, true, want)
}

// unshared is a message in new memory, made without what is tested.
func unshared(m api.Msg) api.Msg { return trimmed(m) }

// TestEmptyLists: P18.1, nil and empty lists are one; what an empty one has room for isn't shared.
func TestEmptyLists(t *testing.T) {
	m := api.Msg{
		Fact:   api.Fact{Dims: make([]string, 0, 4), Meas: []int64{}},
		Query:  api.Query{Sets: [][]int{{}, nil}, Filter: api.Filter{Kids: []api.Filter{}, Texts: []string{}}, Aggs: []api.Agg{}},
		Segs:   []api.Seg{},
		Groups: []api.Group{{}, {Parts: []api.Partial{{}, {Texts: []string{}}}}},
	}
	n := New()
	n.Send(m)
	expectWaiting(t, n, with(m, 1))
	got, _ := n.Peek(0)
	if len(got.Query.Sets) != 2 || len(got.Groups) != 2 || len(got.Groups[1].Parts) != 2 {
		t.Fatalf("%+v", got)
	}
	_ = append(got.Fact.Dims, "x")
	if room := m.Fact.Dims[:4]; room[0] != "" {
		t.Fatal("shared", room)
	}
}

// TestDeepFilter: P18.1, a filter that is nested as deep as rule 5 says.
func TestDeepFilter(t *testing.T) {
	const deep = 1 << 16
	filter := api.Filter{Kind: api.FilterAll}
	for range deep - 1 {
		filter = api.Filter{Kind: api.FilterNot, Kids: []api.Filter{filter}}
	}
	n := New()
	n.Send(api.Msg{Query: api.Query{Filter: filter}})
	m, there := n.Deliver(0)
	expectTrue(t, there)
	inner, count := m.Query.Filter, 1
	for ; len(inner.Kids) == 1; count++ {
		inner = inner.Kids[0]
	}
	if count != deep || inner.Kind != api.FilterAll {
		t.Fatal(count, inner)
	}
}

// TestWrongMessages: P18.1, what no node would send is carried as it is.
func TestWrongMessages(t *testing.T) {
	n := New()
	wrong := []api.Msg{
		{Kind: -1, From: -5, To: lowest, Term: lowest, Code: -9},
		{Kind: 99, From: greatest, Count: highest, Ask: highest, Offset: highest},
		{Fact: api.Fact{Time: -1, Dims: []string{"\xff\x00"}, Meas: []int64{-1 << 63}}},
		{Query: api.Query{Span: api.Span{From: 5, To: -5}, Groups: -1, Sets: [][]int{{-1, -1}}}},
		{Groups: []api.Group{{Parts: []api.Partial{{Texts: []string{"b", "a", "b"}}}}}},
	}
	for at, m := range wrong {
		expectId(t, n.Send(m), uint64(at+1))
	}
	for at, m := range wrong {
		got, there := n.Deliver(0)
		expectTold(t, got, there, with(m, uint64(at+1)))
	}
}
