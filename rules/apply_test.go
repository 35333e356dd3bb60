package rules

import (
	"testing"

	"gristmill/api"
)

// TestApplyExample: P16.3, the document's table.
func TestApplyExample(t *testing.T) {
	a, b := nth(0), nth(1)
	expectOrders(t, Apply([]api.Order{on(a, 1), on(a, 1)}, []api.Order{on(b, 2), off(a, 1)}), on(b, 2))
}

// TestApplyEdges: P16.3, of nothing, of what is there, of what isn't, of one pair again and again.
func TestApplyEdges(t *testing.T) {
	a, b := nth(0), nth(1)
	for _, c := range []struct {
		have, l, want []api.Order
	}{
		{nil, nil, nil},
		{[]api.Order{}, []api.Order{}, nil},
		{[]api.Order{on(a, 1)}, nil, []api.Order{on(a, 1)}},
		{nil, []api.Order{on(a, 1)}, []api.Order{on(a, 1)}},
		{nil, []api.Order{off(a, 1)}, nil},
		{[]api.Order{on(a, 1)}, []api.Order{on(a, 1)}, []api.Order{on(a, 1)}},
		{[]api.Order{on(a, 1)}, []api.Order{off(a, 1)}, nil},
		{[]api.Order{on(a, 1)}, []api.Order{off(a, 1), off(a, 1)}, nil},
		{[]api.Order{on(a, 1)}, []api.Order{off(a, 2), off(b, 1)}, []api.Order{on(a, 1)}},
		// Order by order.
		{nil, []api.Order{on(a, 1), off(a, 1)}, nil},
		{nil, []api.Order{off(a, 1), on(a, 1)}, []api.Order{on(a, 1)}},
		{nil, []api.Order{on(a, 1), off(a, 1), on(a, 1)}, []api.Order{on(a, 1)}},
		{[]api.Order{on(a, 1)}, []api.Order{off(a, 1), on(a, 1), off(a, 1)}, nil},
		{[]api.Order{on(a, 1)}, []api.Order{off(a, 1), on(a, 1)}, []api.Order{on(a, 1)}},
		// A Drop in have says nothing: not ahead of the pair, not behind it.
		{[]api.Order{off(a, 1)}, nil, []api.Order{on(a, 1)}},
		{[]api.Order{on(a, 1), off(a, 1)}, nil, []api.Order{on(a, 1)}},
		{[]api.Order{off(a, 1), off(a, 1)}, []api.Order{off(a, 1)}, nil},
		{[]api.Order{off(a, 1), on(a, 1), off(b, 2)}, []api.Order{off(a, 1)}, []api.Order{on(b, 2)}},
		// All of the times that it was told go with it.
		{[]api.Order{on(a, 1), on(a, 1), on(a, 2)}, []api.Order{on(a, 1), off(a, 1)}, []api.Order{on(a, 2)}},
	} {
		expectOrders(t, Apply(c.have, c.l), c.want...)
	}
}

// TestApplyOrder: P16.3, the pairs by their segments as they stand, of one segment by rising nodes; segments and nodes are any.
func TestApplyOrder(t *testing.T) {
	numbers := stream(21)
	var all []api.Order
	for _, s := range standing() {
		all = append(all, onAll(s, least, -10, -9, 0, 9, 10, greatest)...)
	}
	for range 10 {
		expectOrders(t, Apply(shuffled(&numbers, all), nil), all...)
		expectOrders(t, Apply(nil, shuffled(&numbers, all)), all...)
		expectOrders(t, Apply(shuffled(&numbers, all[:40]), shuffled(&numbers, all[30:])), all...)
		expectOrders(t, Apply(shuffled(&numbers, dropped(all)), nil), all...)
		expectOrders(t, Apply(shuffled(&numbers, all), shuffled(&numbers, dropped(all[20:]))), all[:20]...)
	}
}

// TestApplyOneNumberApart: P16.3, a drop takes the one pair alone, not one that differs in one number.
func TestApplyOneNumberApart(t *testing.T) {
	a := on(seg(3, 6, 1, 2, 4), 5)
	for _, b := range []api.Order{
		on(seg(4, 6, 1, 2, 4), 5), on(seg(3, 7, 1, 2, 4), 5), on(seg(3, 6, 2, 2, 4), 5),
		on(seg(3, 6, 1, 3, 4), 5), on(seg(3, 6, 1, 2, 5), 5), on(seg(3, 6, 1, 2, 4), 6),
	} {
		expectOrders(t, Apply([]api.Order{b}, []api.Order{a}), a, b)
		expectOrders(t, Apply([]api.Order{b, a}, []api.Order{off(a.Seg, a.Node)}), b)
		expectOrders(t, Apply([]api.Order{b, a}, []api.Order{off(b.Seg, b.Node)}), a)
	}
}

// TestApplyThrown: P16.3, held against the document's words done over lists.
func TestApplyThrown(t *testing.T) {
	numbers := stream(22)
	for range 4000 {
		c, d := thrown(&numbers), thrown(&numbers)
		expectOrders(t, Apply(c.have, d.have), plainApply(c.have, d.have)...)
		// Of few pairs, so that they meet again and again.
		few := func() []api.Order {
			var l []api.Order
			for range numbers.below(12) {
				l = append(l, api.Order{Drop: numbers.below(2) == 0, Seg: nth(numbers.below(2)), Node: numbers.below(2)})
			}
			return l
		}
		have, l := few(), few()
		expectOrders(t, Apply(have, l), plainApply(have, l)...)
	}
}
