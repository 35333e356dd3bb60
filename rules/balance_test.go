package rules

import (
	"testing"

	"gristmill/api"
)

// TestBalanceExample: P16.2, the document's table.
func TestBalanceExample(t *testing.T) {
	a, b, c := nth(0), nth(1), nth(2)
	expectOrders(t, Balance([]api.Seg{a, b, c}, []api.Order{on(a, 1), on(b, 1), on(c, 1)}, []int{1, 2}), on(a, 2), off(a, 1))
}

// TestNobodyToMove: P16.2, nothing where nobody lives, one alone does, or nothing is wanted.
func TestNobodyToMove(t *testing.T) {
	segs := row(4)
	have := holding(1, segs...)
	for _, nodes := range [][]int{nil, {}, {1}, {2}, {1, 1, 1}} {
		expectOrders(t, Balance(segs, have, nodes))
		expectOrders(t, Balance(segs, nil, nodes))
		expectOrders(t, Balance(nil, have, nodes))
	}
	expectOrders(t, Balance(nil, have, []int{1, 2}))
	expectOrders(t, Balance([]api.Seg{}, nil, []int{1, 2}))
	expectOrders(t, Balance(segs, nil, []int{1, 2}))
}

// TestDifference: P16.2, loads that differ by less than 2 stay; the load is told ahead of the drop.
func TestDifference(t *testing.T) {
	segs := row(8)
	for most := range 5 {
		for fewer := range 5 {
			have := joined(holding(1, segs[:most]...), holding(2, segs[most:most+fewer]...))
			got := Balance(segs, have, []int{2, 1})
			switch {
			case most >= fewer+2:
				expectOrders(t, got, on(segs[0], 2), off(segs[0], 1))
			case fewer >= most+2:
				expectOrders(t, got, on(segs[most], 1), off(segs[most], 2))
			default:
				expectOrders(t, got)
			}
		}
	}
}

// TestFromWhomToWhom: P16.2, of several with the greatest load the least one, of several with the least load the least one.
func TestFromWhomToWhom(t *testing.T) {
	segs := row(9)
	have := joined(holding(5, segs[0:3]...), holding(3, segs[3:6]...), holding(7, segs[6:9]...))
	for _, c := range []struct {
		nodes    []int
		from, to int
	}{
		{[]int{7, 5, 3, 4, 6}, 3, 4},
		{[]int{8, 3, 5, 7, 2}, 3, 2},
		{[]int{5, 7, 9, 8, 10}, 5, 8},
		{[]int{7, 9, 8}, 7, 8},
		{[]int{7, 5, 3, 0, least, greatest}, 3, least},
		{[]int{7, greatest, 5}, 5, greatest},
	} {
		first := map[int]int{5: 0, 3: 3, 7: 6}[c.from]
		expectOrders(t, Balance(segs, have, c.nodes), on(segs[first], c.to), off(segs[first], c.from))
	}
	// The fullest is the greatest number, the emptiest neither the least nor the greatest.
	have = joined(holding(1, segs[0:2]...), holding(2, segs[2]), holding(3, segs[3:5]...), holding(4, segs[5:9]...))
	expectOrders(t, Balance(segs, have, []int{1, 2, 3, 4}), on(segs[5], 2), off(segs[5], 4))
}

// TestWhatMoves: P16.2, the first wanted segment that a holds and b doesn't, as they stand.
func TestWhatMoves(t *testing.T) {
	segs := row(6)
	nodes := []int{1, 2}
	for held := range 4 {
		// The first ones are on b, too.
		have := joined(holding(1, segs...), holding(2, segs[:held]...))
		expectOrders(t, Balance(segs, have, nodes), on(segs[held], 2), off(segs[held], 1))
	}
	have := joined(holding(1, segs[0], segs[2], segs[4], segs[5]), holding(2, segs[0], segs[1]))
	expectOrders(t, Balance(segs, have, nodes), on(segs[2], 2), off(segs[2], 1))
	// One that isn't wanted isn't moved, though it stands first, and is no load.
	have = joined(holding(1, segs...), holding(2, segs[:2]...))
	expectOrders(t, Balance(segs[3:], have, nodes), on(segs[3], 2), off(segs[3], 1))
	expectOrders(t, Balance(segs[5:], have, nodes))
	have = joined(holding(1, segs[:5]...), holding(2, segs[5]))
	expectOrders(t, Balance(segs[4:], have, nodes))
	// Others hold it, living and dead.
	have = joined(holding(1, segs[:3]...), holding(3, segs[0], segs[1]), holding(9, segs...))
	expectOrders(t, Balance(segs, have, []int{1, 2, 3}), on(segs[0], 2), off(segs[0], 1))
	// As they stand, whatever they are told in.
	all := standing()
	numbers := stream(11)
	for range 20 {
		told := shuffled(&numbers, all)
		expectOrders(t, Balance(told, shuffled(&numbers, holding(8, told...)), []int{9, 8}), on(all[0], 9), off(all[0], 8))
	}
}

// TestBalanceHave: P16.2, a pair counts once, whatever its Drop says; the dead are neither a nor b.
func TestBalanceHave(t *testing.T) {
	a, b, c := nth(0), nth(1), nth(2)
	segs, nodes := []api.Seg{a, b, c}, []int{1, 2}
	expectOrders(t, Balance(segs, []api.Order{on(a, 1), on(a, 1), on(a, 1), off(a, 1)}, nodes))
	expectOrders(t, Balance(segs, []api.Order{off(a, 1), off(b, 1)}, nodes), on(a, 2), off(a, 1))
	expectOrders(t, Balance(segs, []api.Order{on(a, 1), on(b, 1), off(c, 2)}, nodes))
	expectOrders(t, Balance(segs, []api.Order{on(a, 1), on(a, 3), on(b, 3), on(c, 3)}, nodes))
	expectOrders(t, Balance([]api.Seg{a, a, a}, []api.Order{on(a, 1)}, nodes))
	// What Assign would change Balance leaves.
	expectOrders(t, Balance([]api.Seg{a}, []api.Order{on(a, 1), on(b, 1), on(c, 1)}, nodes))
}

// TestBalanceThrown: P16.2, held against the document's words done over lists.
func TestBalanceThrown(t *testing.T) {
	numbers := stream(12)
	moves := 0
	for range 6000 {
		c := thrown(&numbers)
		want := plainBalance(c.segs, c.have, c.nodes)
		expectOrders(t, Balance(c.segs, c.have, c.nodes), want...)
		moves += len(want) / 2
	}
	if moves < 500 {
		t.Fatal("too few moves", moves)
	}
}
