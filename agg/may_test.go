package agg

import (
	"strings"
	"testing"

	"gristmill/api"
)

// TestMayNumbers: P6.3, kinds without Texts, each at the edges of N and V.
func TestMayNumbers(t *testing.T) {
	s := api.Schema{Dims: 1, Meas: 1}
	for _, n := range []uint64{0, 1, 2, 1 << 63, most} {
		for _, v := range []int64{0, 1, -1, least, great} {
			for _, l := range [][]string{nil, {}, {""}, {"a"}, {"a", "b"}} {
				p := api.Partial{N: n, V: v, Texts: l}
				if got := May(s, api.Agg{Kind: api.AggCount}, p); got != (v == 0 && len(l) == 0) {
					t.Errorf("AggCount: %t of %+v", got, p)
				}
				for _, kind := range []int{api.AggSum, api.AggMin, api.AggMax} {
					want := len(l) == 0
					if n == 0 {
						want = want && v == 0
					}
					if got := May(s, api.Agg{Kind: kind}, p); got != want {
						t.Errorf("kind %d: %t of %+v", kind, got, p)
					}
				}
			}
		}
	}
}

// TestMayTexts: P6.3, AggDistinct: how many Texts, how long, in which order, and no V.
func TestMayTexts(t *testing.T) {
	s := api.Schema{Dims: 1}
	a := api.Agg{Kind: api.AggDistinct}
	fits, longer := strings.Repeat("m", 64), strings.Repeat("m", 65)
	for _, c := range []struct {
		p    api.Partial
		want bool
	}{
		{texts(0), true}, {texts(1), false}, {texts(2), false}, {texts(most), false},
		{texts(0, ""), false}, {texts(0, "a"), false}, {texts(1, ""), true}, {texts(1, "a"), true}, {texts(5, "a"), true}, {texts(most, "a"), true},
		{texts(1, "a", "b"), false}, {texts(2, "a", "b"), true}, {texts(3, "a", "b"), true}, {texts(1<<63, "a", "b"), true},
		{texts(2, "a", "b", "c"), false}, {texts(3, "a", "b", "c"), true},
		{texts(9, "b", "a"), false}, {texts(9, "a", "a"), false}, {texts(9, "", ""), false}, {texts(9, "", "a"), true}, {texts(9, "a", ""), false},
		{texts(9, "a", "c", "b"), false}, {texts(9, "b", "a", "c"), false}, {texts(9, "a", "b", "b"), false}, {texts(9, "a", "a", "b"), false},
		{texts(9, "a", "ab", "b"), true}, {texts(9, "ab", "a"), false}, {texts(9, "A", "a"), true}, {texts(9, "a", "B"), false},
		{texts(9, "ÿ", "\xff"), true}, {texts(9, "\xff", "ÿ"), false}, {texts(9, "\xfe", "\xff"), true}, {texts(9, "\xff", "\xfe"), false}, {texts(1, "\xff\x80"), true},
		{texts(9, fits), true}, {texts(9, longer), false}, {texts(9, "a", fits, "z"), true}, {texts(9, "a", longer, "z"), false},
		{texts(9, "a", longer), false}, {texts(9, longer, "z"), false}, {texts(9, fits[:63], fits), true}, {texts(9, fits, longer), false},
		{api.Partial{N: 1, V: 1, Texts: []string{"a"}}, false}, {api.Partial{N: 1, V: -1, Texts: []string{"a"}}, false},
		{api.Partial{V: 1}, false}, {api.Partial{V: least}, false}, {api.Partial{N: 2, V: great, Texts: []string{"a", "b"}}, false},
	} {
		was := deep(c.p)
		if got := May(s, a, c.p); got != c.want {
			t.Errorf("%t of %+v", got, c.p)
		}
		if !alike(c.p, was) {
			t.Errorf("changed: %+v, it was %+v", c.p, was)
		}
	}
}

// TestMayCheck: P6.3, an aggregator that Check refuses may have nothing.
func TestMayCheck(t *testing.T) {
	s := api.Schema{Dims: 2, Meas: 3}
	partials := []api.Partial{{}, {N: 1}, {N: 1, V: 1}, texts(1, "a")}
	aggs := []api.Agg{}
	for _, kind := range noKinds {
		aggs = append(aggs, api.Agg{Kind: kind})
	}
	for _, col := range []int{-1, 3, 9} {
		aggs = append(aggs, api.Agg{Kind: api.AggSum, Col: col}, api.Agg{Kind: api.AggMin, Col: col}, api.Agg{Kind: api.AggMax, Col: col}, api.Agg{Kind: api.AggDistinct, Col: col})
	}
	aggs = append(aggs, api.Agg{Kind: api.AggDistinct, Col: 2})
	for _, a := range aggs {
		for _, p := range partials {
			if May(s, a, p) {
				t.Errorf("%+v has %+v", a, p)
			}
		}
	}
	for _, c := range []struct {
		a api.Agg
		p api.Partial
	}{
		{api.Agg{Kind: api.AggCount, Col: -5}, api.Partial{N: 1}}, {api.Agg{Kind: api.AggCount, Col: 99}, api.Partial{N: 1}},
		{api.Agg{Kind: api.AggSum, Col: 2}, api.Partial{N: 1, V: 1}}, {api.Agg{Kind: api.AggDistinct, Col: 1}, texts(1, "a")},
	} {
		if !May(s, c.a, c.p) {
			t.Errorf("%+v hasn't %+v", c.a, c.p)
		}
	}
}
