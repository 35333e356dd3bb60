package rules

import (
	"slices"
	"testing"

	"gristmill/api"
)

// TestBehindAssign: P16.4, each wanted segment is on just as many of the living, nobody living holds what isn't wanted, and there is nothing more to do.
func TestBehindAssign(t *testing.T) {
	numbers := stream(31)
	for range 2000 {
		c := thrown(&numbers)
		orders := Assign(c.segs, c.have, c.nodes, c.replicas)
		have := Apply(c.have, orders)
		p := plainOf(c.segs, have, c.nodes)
		for _, s := range p.wanted {
			if p.holders(s) != replicasOf(c.replicas, len(p.living)) {
				t.Fatal(c, s, p.holders(s))
			}
		}
		for _, one := range have {
			if slices.Contains(p.living, one.Node) && !slices.Contains(p.wanted, one.Seg) {
				t.Fatal(c, one)
			}
		}
		expectOrders(t, Assign(c.segs, have, c.nodes, c.replicas))
	}
}

// TestNeverBelow: P16.4, no order of Assign brings a wanted segment below as many as it says, nor takes from one that has no more; each one changes something.
func TestNeverBelow(t *testing.T) {
	numbers := stream(32)
	for range 1500 {
		c := thrown(&numbers)
		have := Apply(c.have, nil)
		for _, o := range Assign(c.segs, c.have, c.nodes, c.replicas) {
			p := plainOf(c.segs, have, c.nodes)
			wanted := slices.Contains(p.wanted, o.Seg)
			if o.Drop && wanted && p.holders(o.Seg) <= replicasOf(c.replicas, len(p.living)) {
				t.Fatal("below", c, o)
			}
			if p.holds(o.Seg, o.Node) != o.Drop || !slices.Contains(p.living, o.Node) || !o.Drop && !wanted {
				t.Fatal("useless", c, o)
			}
			have = Apply(have, []api.Order{o})
		}
	}
}

// TestHoweverTold: P16.4, the order in which things are told, and how often, changes no answer.
func TestHoweverTold(t *testing.T) {
	numbers := stream(33)
	for range 1500 {
		c := thrown(&numbers)
		assigned := Assign(c.segs, c.have, c.nodes, c.replicas)
		balanced := Balance(c.segs, c.have, c.nodes)
		applied := Apply(c.have, assigned)
		for range 3 {
			segs, have, nodes := shuffled(&numbers, c.segs), shuffled(&numbers, c.have), shuffled(&numbers, c.nodes)
			expectOrders(t, Assign(segs, have, nodes, c.replicas), assigned...)
			expectOrders(t, Balance(segs, have, nodes), balanced...)
			expectOrders(t, Apply(have, assigned), applied...)
		}
	}
}

// asked has Balance asked again and again behind its orders; it is how often it was, and what is held then.
func asked(t *testing.T, segs []api.Seg, have []api.Order, nodes []int) (int, []api.Order) {
	t.Helper()
	// A move brings the sum of the loads' squares down, which is at most this at the beginning.
	bound := len(segs) * len(segs) * len(nodes)
	for times := range bound + 1 {
		orders := Balance(segs, have, nodes)
		if len(orders) == 0 {
			return times, have
		}
		have = Apply(have, orders)
	}
	t.Fatal("no end", segs, have, nodes)
	return 0, nil
}

// expectEven: behind Balance's end no two loads differ by more than 1, and each wanted segment is on as many of the living as ahead.
func expectEven(t *testing.T, segs []api.Seg, have []api.Order, nodes []int) int {
	t.Helper()
	times, then := asked(t, segs, have, nodes)
	ahead, behind := plainOf(segs, have, nodes), plainOf(segs, then, nodes)
	if loads := behind.loads(); len(loads) > 0 && slices.Max(loads)-slices.Min(loads) > 1 {
		t.Fatal("uneven", segs, have, nodes, loads)
	}
	for _, s := range ahead.wanted {
		if ahead.holders(s) != behind.holders(s) {
			t.Fatal("on more or fewer", s, segs, have, nodes)
		}
	}
	for _, one := range ahead.pairs {
		untouched := !slices.Contains(ahead.wanted, one.Seg) || !slices.Contains(ahead.living, one.Node)
		if untouched && !behind.holds(one.Seg, one.Node) {
			t.Fatal("not for Balance", one)
		}
	}
	return times
}

// TestBalanceEnds: P16.4, Balance asked again and again comes to an end, at which all is even.
func TestBalanceEnds(t *testing.T) {
	segs := row(12)
	nodes := []int{1, 2, 3, 4}
	if times := expectEven(t, segs, holding(2, segs...), nodes); times != 9 {
		t.Fatal("moves", times)
	}
	expectEven(t, segs, joined(holding(1, segs...), holding(2, segs...)), nodes)
	expectEven(t, segs, joined(holding(1, segs...), holding(2, segs[:3]...), holding(9, segs...)), nodes)
	expectEven(t, segs[4:], joined(holding(3, segs...), holding(1, segs[:5]...)), nodes)
	if times := expectEven(t, segs, nil, nodes); times != 0 {
		t.Fatal("moves", times)
	}
	numbers := stream(34)
	for range 1500 {
		c := thrown(&numbers)
		expectEven(t, c.segs, c.have, c.nodes)
		// Behind Assign, too, which has nothing to do then either.
		have := Apply(c.have, Assign(c.segs, c.have, c.nodes, c.replicas))
		expectEven(t, c.segs, have, c.nodes)
		_, have = asked(t, c.segs, have, c.nodes)
		expectOrders(t, Assign(c.segs, have, c.nodes, c.replicas))
	}
}

// TestLoadAheadOfDrop: P16.4, between the two orders of Balance its segment is on one node more, never on one fewer.
func TestLoadAheadOfDrop(t *testing.T) {
	numbers := stream(35)
	for range 1500 {
		c := thrown(&numbers)
		orders := Balance(c.segs, c.have, c.nodes)
		if len(orders) == 0 {
			continue
		}
		ahead := plainOf(c.segs, c.have, c.nodes)
		between := plainOf(c.segs, Apply(c.have, orders[:1]), c.nodes)
		if s := orders[0].Seg; orders[1].Seg != s || between.holders(s) != ahead.holders(s)+1 {
			t.Fatal(c, orders)
		}
	}
}

// TestLeftAlone: P16.3 and P16.1, P16.2, what is handed in isn't changed, in its length nor behind it.
func TestLeftAlone(t *testing.T) {
	numbers := stream(36)
	for range 500 {
		c, l := thrown(&numbers), thrown(&numbers).have
		segs, have, nodes, orders := slices.Clone(c.segs), slices.Clone(c.have), slices.Clone(c.nodes), slices.Clone(l)
		// With room behind it an append would write there.
		half := len(c.have) / 2
		for _, upTo := range []int{len(c.have), half} {
			Assign(c.segs, c.have[:upTo], c.nodes, c.replicas)
			Balance(c.segs, c.have[:upTo], c.nodes)
			Apply(c.have[:upTo], l[:len(l)/2])
			Apply(c.have[:upTo], l)
			Assign(c.segs[:len(segs)/2], c.have, c.nodes[:len(nodes)/2], c.replicas)
			Balance(c.segs[:len(segs)/2], c.have, c.nodes[:len(nodes)/2])
		}
		if !slices.Equal(segs, c.segs) || !slices.Equal(have, c.have) || !slices.Equal(nodes, c.nodes) || !slices.Equal(orders, l) {
			t.Fatal("changed")
		}
	}
}

// TestNewMemory: P16.3 and P16.1, P16.2, what is answered shares nothing with what is handed in, nor with other answers.
func TestNewMemory(t *testing.T) {
	a, b, c := nth(0), nth(1), nth(2)
	segs, nodes := []api.Seg{a, b, c}, []int{1, 2}
	have, l := []api.Order{on(a, 1), on(b, 1), on(c, 1)}, []api.Order{on(a, 2)}
	calls := []func() []api.Order{
		func() []api.Order { return Assign(segs, have, nodes, 2) },
		func() []api.Order { return Balance(segs, have, nodes) },
		func() []api.Order { return Apply(have, l) },
		func() []api.Order { return Apply(have, nil) },
		func() []api.Order { return Apply(nil, have) },
	}
	var answers, want [][]api.Order
	for _, call := range calls {
		answers = append(answers, call())
		want = append(want, slices.Clone(answers[len(answers)-1]))
	}
	// A caller who changes an answer changes no other one, and nothing that was handed in.
	for at, call := range calls {
		again := call()
		expectOrders(t, again, want[at]...)
		clear(again)
		_ = append(again[:0], off(c, 77))
		expectOrders(t, call(), want[at]...)
	}
	// Who changes what was handed in changes no answer.
	clear(segs)
	clear(have)
	clear(nodes)
	clear(l)
	for at, answer := range answers {
		expectOrders(t, answer, want[at]...)
	}
	// Nothing of it was kept: asked again the answers are those of what stands there now, one pair of one node.
	one := on(api.Seg{}, 0)
	for at, want := range [][]api.Order{nil, nil, {one}, {one}, {one}} {
		expectOrders(t, calls[at](), want...)
	}
}
