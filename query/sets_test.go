package query

import (
	"reflect"
	"slices"
	"testing"

	"gristmill/api"
)

// alike holds sets against each other; nil and empty lists are one.
func alike(a, b [][]int) bool { return slices.EqualFunc(a, b, slices.Equal[[]int]) }

// plainCube are the choices with the first dimension, then those without it.
func plainCube(dims []int) [][]int {
	if len(dims) == 0 {
		return [][]int{{}}
	}
	with, without := [][]int{}, plainCube(dims[1:])
	for _, set := range without {
		with = append(with, append([]int{dims[0]}, set...))
	}
	return append(with, without...)
}

// TestRollup: P8.3, of none, of one, of several, whatever numbers they are.
func TestRollup(t *testing.T) {
	cases := []struct {
		dims []int
		want [][]int
	}{
		{nil, [][]int{{}}},
		{[]int{}, [][]int{{}}},
		{[]int{4}, [][]int{{4}, {}}},
		{[]int{0, 2}, [][]int{{0, 2}, {0}, {}}},
		{[]int{2, 0}, [][]int{{2, 0}, {2}, {}}},
		{[]int{1, 1, 1}, [][]int{{1, 1, 1}, {1, 1}, {1}, {}}},
		{[]int{-1, great, least, 0}, [][]int{{-1, great, least, 0}, {-1, great, least}, {-1, great}, {-1}, {}}},
	}
	for _, c := range cases {
		if got := Rollup(c.dims); !alike(got, c.want) {
			t.Error(c.dims, got)
		}
	}
	thrown := stream(85)
	for n := range 200 {
		dims := thrownDims(&thrown, n)
		got := Rollup(dims)
		if len(got) != n+1 {
			t.Fatal(n, len(got))
		}
		for at, set := range got {
			if !slices.Equal(set, dims[:n-at]) {
				t.Fatal(dims, at, set)
			}
		}
	}
}

// TestCube: P8.3, of none, of one, of several, by the numbers of the choices.
func TestCube(t *testing.T) {
	cases := []struct {
		dims []int
		want [][]int
	}{
		{nil, [][]int{{}}},
		{[]int{}, [][]int{{}}},
		{[]int{4}, [][]int{{4}, {}}},
		{[]int{0, 2}, [][]int{{0, 2}, {0}, {2}, {}}},
		{[]int{2, 0}, [][]int{{2, 0}, {2}, {0}, {}}},
		{[]int{1, 1}, [][]int{{1, 1}, {1}, {1}, {}}},
		{[]int{0, 1, 2}, [][]int{{0, 1, 2}, {0, 1}, {0, 2}, {0}, {1, 2}, {1}, {2}, {}}},
		{[]int{great, -1, least}, [][]int{{great, -1, least}, {great, -1}, {great, least}, {great}, {-1, least}, {-1}, {least}, {}}},
	}
	for _, c := range cases {
		if got := Cube(c.dims); !alike(got, c.want) {
			t.Error(c.dims, got)
		}
	}
	thrown := stream(86)
	for n := range 7 {
		for range 20 {
			dims := thrownDims(&thrown, n)
			if got := Cube(dims); len(got) != 1<<n || !alike(got, plainCube(dims)) {
				t.Fatal(dims, got)
			}
		}
	}
}

// TestCubeLimit: P8.3, of 6 there are 64 sets, of 7 and more nothing.
func TestCubeLimit(t *testing.T) {
	if got := Cube([]int{0, 1, 2, 3, 4, 5}); len(got) != 64 {
		t.Error(len(got))
	}
	for _, n := range []int{7, 8, 9, 63, 64, 65, 1000} {
		if got := Cube(make([]int, n)); len(got) != 0 {
			t.Error(n, len(got))
		}
	}
}

func thrownDims(thrown *stream, n int) []int {
	dims := make([]int, n)
	for at := range dims {
		dims[at] = thrown.below(20) - 5
	}
	return dims
}

// filled is each list of sets to its capacity, so that what is written behind an end is seen.
func filled(sets [][]int) [][]int {
	out := [][]int{}
	for _, set := range sets {
		out = append(out, slices.Clone(set[:cap(set)]))
	}
	return out
}

// TestSetsApart: P8.3, what was handed in stays as it was; no two lists of an answer, and no two answers, share memory.
func TestSetsApart(t *testing.T) {
	for name, call := range map[string]func([]int) [][]int{"Rollup": Rollup, "Cube": Cube} {
		for n := range 7 {
			room := []int{10, 11, 12, 13, 14, 15, 16, 17, 18, 19}
			was := slices.Clone(room)
			got, again := call(room[:n]), call(room[:n])
			want, wantAgain := deepSets(got), deepSets(again)
			for at := range got {
				before := filled(got)
				row := got[at][:cap(got[at])]
				for place := range row {
					row[place] = -99
				}
				after := filled(got)
				before[at], after[at] = nil, nil
				if !reflect.DeepEqual(before, after) {
					t.Errorf("%s of %d: lists share memory with that at %d", name, n, at)
				}
			}
			if !slices.Equal(room, was) || !alike(again, wantAgain) || !alike(call(room[:n]), want) {
				t.Errorf("%s of %d: an answer that was written into changed something else", name, n)
			}
			for at := range room {
				room[at] = -77
			}
			if !alike(again, want) {
				t.Errorf("%s of %d: what was handed in is kept", name, n)
			}
		}
	}
}

func deepSets(sets [][]int) [][]int {
	out := [][]int{}
	for _, set := range sets {
		out = append(out, slices.Clone(set))
	}
	return out
}

// TestFollows: P8.4, of all dimensions that rise, all sets of Rollup and Cube may be in a query; Cube has those of Rollup.
func TestFollows(t *testing.T) {
	for choice := range 1 << api.MaxDims {
		var dims []int
		for dim := range api.MaxDims {
			if choice>>dim&1 == 1 {
				dims = append(dims, dim)
			}
		}
		rolled, cubed := Rollup(dims), Cube(dims)
		expectSets(t, rolled)
		if len(dims) > 6 {
			continue
		}
		expectSets(t, cubed)
		for _, set := range rolled {
			if !slices.ContainsFunc(cubed, func(other []int) bool { return slices.Equal(other, set) }) {
				t.Error(dims, "Cube hasn't", set)
			}
		}
	}
}

func expectSets(t *testing.T, sets [][]int) {
	t.Helper()
	q := api.Query{Span: api.Span{To: 9}, Filter: api.Filter{Kind: api.FilterAll}, Sets: sets, Groups: 5}
	expect(t, api.Schema{Dims: 8}, q, "", 0)
	if len(sets) > 64 {
		t.Error(len(sets))
	}
}
