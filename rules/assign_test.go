package rules

import (
	"slices"
	"testing"

	"gristmill/api"
)

// TestAssignExamples: P16.1, the document's table.
func TestAssignExamples(t *testing.T) {
	a, b, c := nth(0), nth(1), nth(2)
	expectOrders(t, Assign([]api.Seg{a, b}, nil, []int{1, 2, 3}, 2), on(a, 1), on(a, 2), on(b, 3), on(b, 1))
	have := []api.Order{on(a, 1), on(a, 2), on(a, 3), on(c, 2), on(c, 9)}
	expectOrders(t, Assign([]api.Seg{a}, have, []int{3, 1, 2}, 1), off(c, 2), off(a, 3), off(a, 2))
}

// TestReplicas: P16.1, how many there are to be: below 1 is 1, above the living is all of them.
func TestReplicas(t *testing.T) {
	a := nth(0)
	nodes := []int{4, 5, 6}
	for _, c := range []struct{ replicas, counts int }{
		{least, 1}, {-1, 1}, {0, 1}, {1, 1}, {2, 2}, {3, 3}, {4, 3}, {5, 3}, {greatest, 3},
	} {
		expectOrders(t, Assign([]api.Seg{a}, nil, nodes, c.replicas), onAll(a, nodes[:c.counts]...)...)
		var drops []api.Order
		for _, node := range []int{6, 5, 4}[:3-c.counts] {
			drops = append(drops, off(a, node))
		}
		expectOrders(t, Assign([]api.Seg{a}, onAll(a, nodes...), nodes, c.replicas), drops...)
	}
	// Told twice a node is still one.
	expectOrders(t, Assign([]api.Seg{a}, nil, []int{5, 4, 5, 4, 5}, 3), on(a, 4), on(a, 5))
}

// TestNobody: P16.1, without a living node there is no order, whatever there is to do.
func TestNobody(t *testing.T) {
	a, b := nth(0), nth(1)
	for _, replicas := range []int{least, -1, 0, 1, 2, greatest} {
		for _, nodes := range [][]int{nil, {}} {
			expectOrders(t, Assign([]api.Seg{a}, nil, nodes, replicas))
			expectOrders(t, Assign([]api.Seg{a}, []api.Order{on(a, 0), on(a, 1), on(b, 0), on(b, 1)}, nodes, replicas))
			expectOrders(t, Assign(nil, []api.Order{on(a, 0), on(b, 1)}, nodes, replicas))
			expectOrders(t, Assign(nil, nil, nodes, replicas))
		}
		expectOrders(t, Assign(nil, nil, []int{1, 2}, replicas))
		expectOrders(t, Assign([]api.Seg{}, []api.Order{}, []int{1, 2}, replicas))
	}
}

// TestAnyNodes: P16.1, nodes are any numbers, and rise as numbers.
func TestAnyNodes(t *testing.T) {
	a := nth(0)
	rising := []int{least, least + 1, -10, -9, -1, 0, 1, 9, 10, greatest - 1, greatest}
	numbers := stream(1)
	for range 20 {
		expectOrders(t, Assign([]api.Seg{a}, nil, shuffled(&numbers, rising), greatest), onAll(a, rising...)...)
	}
	var drops []api.Order
	for _, node := range slices.Backward(rising[1:]) {
		drops = append(drops, off(a, node))
	}
	expectOrders(t, Assign([]api.Seg{a}, onAll(a, rising...), rising, 1), drops...)
	expectOrders(t, Assign(nil, onAll(a, rising...), rising, 1), dropped(onAll(a, rising...))...)
}

// dropped are the drops of pairs.
func dropped(pairs []api.Order) []api.Order {
	var out []api.Order
	for _, one := range pairs {
		out = append(out, off(one.Seg, one.Node))
	}
	return out
}

// standing are segments as they stand: those next to each other differ in one number alone, or in others ahead of which it goes.
func standing() []api.Seg {
	return []api.Seg{
		seg(least, greatest, 9, 9, 9),
		seg(-10, -20, 0, 0, 0),
		seg(-9, 0, 0, 0, 0),
		seg(0, least, 0, 0, 0),
		seg(0, 0, 0, 0, 0),
		seg(1, 0, 9, 9, 9),
		seg(1, 5, least, 9, 9),
		seg(1, 5, -1, 9, 9),
		seg(1, 5, 0, least, 9),
		seg(1, 5, 0, -1, 9),
		seg(1, 5, 0, 0, least),
		seg(1, 5, 0, 0, -1),
		seg(1, 5, 0, 0, 0),
		seg(1, 5, 0, 0, 1),
		seg(1, 5, 0, 0, greatest),
		seg(1, 5, 0, 1, 0),
		seg(1, 5, 0, 9, 0),
		seg(1, 5, 0, 10, 0),
		seg(1, 5, 1, 0, 0),
		seg(1, 5, 10, 0, 0),
		seg(1, 6, 0, 0, 0),
		seg(1, 10, 0, 0, 0),
		seg(2, 5, 0, 0, 0),
		seg(10, 5, 0, 0, 0),
		seg(greatest, least, least, least, least),
	}
}

// TestAnySegments: P16.1, segments are any; two are one just if all of their numbers are.
func TestAnySegments(t *testing.T) {
	all := standing()
	numbers := stream(2)
	for range 30 {
		segs := shuffled(&numbers, all)
		expectOrders(t, Assign(segs, nil, []int{8}, 1), holding(8, all...)...)
		var have []api.Order
		for _, s := range segs {
			have = append(have, on(s, 8))
		}
		expectOrders(t, Assign(nil, have, []int{8}, 1), dropped(holding(8, all...))...)
		expectOrders(t, Assign(segs, have, []int{8}, 1))
	}
	// One that is all but another is not that one.
	for at := range all {
		others := slices.Delete(slices.Clone(all), at, at+1)
		expectOrders(t, Assign(all, holding(8, others...), []int{8}, 1), on(all[at], 8))
		expectOrders(t, Assign(others, holding(8, all...), []int{8}, 1), off(all[at], 8))
	}
}

// TestOneNumberApart: P16.1, segments that differ in one of From, To, Version, Part and Core alone are two.
func TestOneNumberApart(t *testing.T) {
	a := seg(3, 6, 1, 2, 4)
	for _, b := range []api.Seg{seg(4, 6, 1, 2, 4), seg(3, 7, 1, 2, 4), seg(3, 6, 2, 2, 4), seg(3, 6, 1, 3, 4), seg(3, 6, 1, 2, 5)} {
		expectOrders(t, Assign([]api.Seg{b, a}, nil, []int{1, 2}, 1), on(a, 1), on(b, 2))
		expectOrders(t, Assign([]api.Seg{a}, []api.Order{on(b, 1)}, []int{1, 2}, 1), off(b, 1), on(a, 1))
		expectOrders(t, Assign([]api.Seg{b}, []api.Order{on(a, 1)}, []int{1, 2}, 1), off(a, 1), on(b, 1))
		expectOrders(t, Assign(nil, []api.Order{on(b, 1), on(a, 2)}, []int{1, 2}, 1), off(a, 2), off(b, 1))
	}
}

// TestHave: P16.1, a pair counts once, whatever its Drop says; the dead hold nothing.
func TestHave(t *testing.T) {
	a, b, c := nth(0), nth(1), nth(2)
	segs, nodes := []api.Seg{a, b}, []int{1, 2}
	expectOrders(t, Assign(segs, []api.Order{on(a, 1), on(a, 1), on(a, 1), on(b, 2)}, nodes, 2), on(a, 2), on(b, 1))
	expectOrders(t, Assign(segs, []api.Order{off(a, 1), off(b, 2)}, nodes, 1))
	expectOrders(t, Assign(segs, []api.Order{on(a, 1), off(a, 1), off(b, 2), on(b, 2)}, nodes, 1))
	expectOrders(t, Assign(segs, []api.Order{off(c, 1), on(c, 1), off(a, 1), off(b, 1)}, nodes, 1), off(c, 1))
	expectOrders(t, Assign(segs, []api.Order{on(a, 3), on(a, 4), on(b, 9), on(b, 1)}, nodes, 1), on(a, 2))
	expectOrders(t, Assign(segs, []api.Order{on(a, 0), on(a, 1), on(b, 3), on(b, 2)}, nodes, 2), on(a, 2), on(b, 1))
	// Two loads of one pair told twice would make node 1 the fuller one.
	expectOrders(t, Assign([]api.Seg{a, b, c}, []api.Order{on(a, 1), off(a, 1), on(a, 1), on(b, 2)}, nodes, 1), on(c, 1))
}

// TestUnwanted: P16.1, drops of what isn't wanted come first: by segments as they stand, of one by rising nodes; of the living alone.
func TestUnwanted(t *testing.T) {
	a, b, c, d := nth(0), nth(1), nth(2), nth(3)
	have := []api.Order{on(d, 2), on(b, 3), on(b, 9), on(d, 1), on(b, -4), on(d, 8), on(c, 1), on(b, 1)}
	expectOrders(t, Assign([]api.Seg{c, a}, have, []int{2, 3, 1, -4}, 1),
		off(b, -4), off(b, 1), off(b, 3), off(d, 1), off(d, 2), on(a, -4))
	// Also those that stand behind all that is wanted, and with more to drop of that.
	have = []api.Order{on(a, 1), on(a, 2), on(d, 1), on(d, 2)}
	expectOrders(t, Assign([]api.Seg{a}, have, []int{1, 2}, 1), off(d, 1), off(d, 2), off(a, 2))
	expectOrders(t, Assign([]api.Seg{a}, []api.Order{on(a, 1), on(d, 7)}, []int{1, 2}, 1))
	expectOrders(t, Assign(nil, have, []int{2}, 1), off(a, 2), off(d, 2))
}

// TestHeldBy: P16.1, a segment held by fewer, by as many, by more than it is to be.
func TestHeldBy(t *testing.T) {
	a := nth(0)
	nodes := []int{1, 2, 3, 4}
	for _, c := range []struct {
		held []int
		want []api.Order
	}{
		{nil, []api.Order{on(a, 1), on(a, 2)}},
		{[]int{1}, []api.Order{on(a, 2)}},
		{[]int{4}, []api.Order{on(a, 1)}},
		{[]int{9}, []api.Order{on(a, 1), on(a, 2)}},
		{[]int{1, 9}, []api.Order{on(a, 2)}},
		{[]int{2, 3}, nil},
		{[]int{2, 3, 9, 10}, nil},
		{[]int{1, 2, 4}, []api.Order{off(a, 4)}},
		{[]int{4, 3, 2, 1}, []api.Order{off(a, 4), off(a, 3)}},
	} {
		expectOrders(t, Assign([]api.Seg{a}, onAll(a, c.held...), nodes, 2), c.want...)
	}
}

// TestWhoLoads: P16.1, of those that don't hold it the one with the least load, of several the least one.
func TestWhoLoads(t *testing.T) {
	segs := row(6)
	last := segs[5]
	for _, c := range []struct {
		have  []api.Order // each of the segments ahead of the last one is there once
		nodes []int
		want  int
	}{
		{joined(holding(1, segs[0], segs[1]), holding(2, segs[2]), holding(3, segs[3], segs[4])), []int{1, 2, 3}, 2},
		{joined(holding(1, segs[0], segs[1]), holding(2, segs[2], segs[3]), holding(3, segs[4])), []int{1, 2, 3}, 3},
		{joined(holding(1, segs[0]), holding(2, segs[1]), holding(3, segs[2:5]...)), []int{3, 2, 1}, 1},
		{joined(holding(1, segs[:3]...), holding(2, segs[3]), holding(3, segs[4])), []int{3, 2, 1}, 2},
		{holding(1, segs[:5]...), []int{3, 2, 1, 3}, 2},
		{holding(1, segs[:5]...), []int{3, 2, 1, -3}, -3},
		{holding(1, segs[:5]...), []int{1}, 1},
	} {
		expectOrders(t, Assign(segs, c.have, c.nodes, 1), on(last, c.want))
		// The dead have no load, and aren't told anything, however empty they are.
		expectOrders(t, Assign(segs, joined(c.have, holding(-9, segs[0])), c.nodes, 1), on(last, c.want))
	}
	// The emptiest ones hold it already.
	have := joined(onAll(segs[1], 1, 2), holding(3, segs[0]), holding(4, segs[0]))
	expectOrders(t, Assign(segs[:2], have, []int{1, 2, 3, 4}, 3), on(segs[0], 1), on(segs[1], 3))
	expectOrders(t, Assign(segs[:1], onAll(segs[0], 1, 3), []int{1, 2, 3, 4}, 4), on(segs[0], 2), on(segs[0], 4))
}

// TestWhoDrops: P16.1, of those that hold it the one with the greatest load, of several the greatest one.
func TestWhoDrops(t *testing.T) {
	segs := row(4)
	a := segs[0]
	for _, c := range []struct {
		more []api.Order // beside a on each of 1, 2, 3
		want []api.Order
	}{
		{nil, []api.Order{off(a, 3), off(a, 2)}},
		{holding(1, segs[1], segs[2], segs[3]), []api.Order{off(a, 1), off(a, 3)}},
		{holding(2, segs[1], segs[2], segs[3]), []api.Order{off(a, 2), off(a, 3)}},
		{joined(holding(1, segs[1]), holding(2, segs[2], segs[3])), []api.Order{off(a, 2), off(a, 1)}},
		{joined(holding(1, segs[1]), holding(2, segs[2]), holding(4, segs[3])), []api.Order{off(a, 2), off(a, 1)}},
		// The fullest of all doesn't hold it.
		{holding(4, segs[1], segs[2], segs[3]), []api.Order{off(a, 3), off(a, 2)}},
		{joined(holding(4, segs[1], segs[2]), holding(1, segs[3])), []api.Order{off(a, 1), off(a, 3)}},
	} {
		var wanted []api.Seg
		for _, o := range c.more {
			wanted = append(wanted, o.Seg)
		}
		have := joined(onAll(a, 1, 2, 3), c.more)
		expectOrders(t, Assign(append(wanted, a), have, []int{1, 2, 3, 4}, 1), c.want...)
	}
}

// TestLoadsChange: P16.1, loads and holdings change with each order, so that later segments go elsewhere.
func TestLoadsChange(t *testing.T) {
	segs := row(6)
	expectOrders(t, Assign(segs, nil, []int{1, 2, 3}, 1),
		on(segs[0], 1), on(segs[1], 2), on(segs[2], 3), on(segs[3], 1), on(segs[4], 2), on(segs[5], 3))
	expectOrders(t, Assign(segs[:4], nil, []int{1, 2, 3}, 2),
		on(segs[0], 1), on(segs[0], 2), on(segs[1], 3), on(segs[1], 1), on(segs[2], 2), on(segs[2], 3), on(segs[3], 1), on(segs[3], 2))
	// What a node drops makes it emptier: the next segment goes there.
	have := joined(holding(1, segs[0]), holding(2, segs[0]))
	expectOrders(t, Assign(segs[:3], have, []int{1, 2}, 1), off(segs[0], 2), on(segs[1], 2), on(segs[2], 1))
	// And the next drop is another one's.
	have = joined(holding(1, segs[:4]...), holding(2, segs[:4]...))
	expectOrders(t, Assign(segs[:4], have, []int{1, 2}, 1), off(segs[0], 2), off(segs[1], 1), off(segs[2], 2), off(segs[3], 1))
	// A segment that stands ahead is done ahead, though it was told behind.
	expectOrders(t, Assign([]api.Seg{segs[1], segs[0]}, nil, []int{1, 2}, 1), on(segs[0], 1), on(segs[1], 2))
}

// TestLoadOfWanted: P16.1, a load counts wanted segments alone, each once.
func TestLoadOfWanted(t *testing.T) {
	segs := row(6)
	a, b := segs[0], segs[1]
	// Node 1 holds much that isn't wanted, node 2 one that is.
	have := joined(holding(1, segs[2:]...), holding(2, b))
	want := append(dropped(holding(1, segs[2:]...)), on(a, 1))
	expectOrders(t, Assign([]api.Seg{a, b}, have, []int{1, 2}, 1), want...)
	have = joined(holding(1, segs[2:]...), onAll(a, 1, 2), holding(2, b))
	want = append(dropped(holding(1, segs[2:]...)), off(a, 2))
	expectOrders(t, Assign([]api.Seg{a, b}, have, []int{1, 2}, 1), want...)
	// A wanted segment that is told often is one.
	expectOrders(t, Assign([]api.Seg{a, b, b, b, b, segs[2], segs[3]}, joined(holding(1, b), holding(2, segs[2], segs[3])), []int{1, 2}, 1), on(a, 1))
}

// TestAssignThrown: P16.1, held against the document's words done over lists.
func TestAssignThrown(t *testing.T) {
	numbers := stream(3)
	for range 4000 {
		c := thrown(&numbers)
		expectOrders(t, Assign(c.segs, c.have, c.nodes, c.replicas), plainAssign(c.segs, c.have, c.nodes, c.replicas)...)
	}
}
