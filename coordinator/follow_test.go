package coordinator

import (
	"slices"
	"testing"

	"gristmill/api"
	"gristmill/rules"
)

// plain is what a node is to be, by what was done to it, as the document's words have it.
type plain struct {
	id    int
	term  int // that it leads, or 0
	told  [3]plainTold
	sent  []plainSent
	ticks []plainTick
}

// plainTold is what a node told.
type plainTold struct {
	ever, fresh bool
	count       uint64
	segs        []api.Seg
	heard       int
}

type plainSent struct {
	order api.Order
	tick  int
}

// plainTick is a tick, and what it saw that nobody names.
type plainTick struct {
	now   int
	loose []string
}

func (p *plain) resign() { p.term, p.sent = 0, nil }

func (p *plain) have(m api.Msg) {
	t := &p.told[m.From-api.Store]
	if !t.ever || m.Count > t.count {
		t.count, t.segs = m.Count, m.Segs
	}
	t.ever, t.fresh = true, true
}

// look is whether it leads, and the book says so.
func (p *plain) look(w *world, f fault) api.Errno {
	if p.term == 0 {
		return api.ErrTerm
	}
	if f.code != api.OK {
		return f.code
	}
	if s := w.log.State(); s.Term != p.term || s.Leader != p.id {
		p.resign()
		return api.ErrTerm
	}
	return api.OK
}

// done is what a transaction that comes to this answers, and whether it is done.
func (p *plain) done(f fault) (api.Errno, bool) {
	if f.code == api.ErrTerm {
		p.resign()
	}
	return f.code, f.code == api.OK || f.unheard
}

// covered are the segments that others go ahead of at each time.
func covered(there []api.Seg) []api.Seg {
	var l []api.Seg
	for _, s := range there {
		all := true
		for time := s.Span.From; time < s.Span.To; time++ {
			ahead, some := counting(there, time)
			all = all && some && goesAhead(ahead, s)
		}
		if all {
			l = append(l, s)
		}
	}
	return l
}

// shown are the segments whose sets count within a span.
func shown(there []api.Seg, s api.Span) []api.Seg {
	var l []api.Seg
	for _, one := range there {
		for time := max(one.Span.From, s.From); time < min(one.Span.To, s.To); time++ {
			if c, some := counting(there, time); some && sameSet(c, one) {
				l = append(l, one)
				break
			}
		}
	}
	return l
}

func without(l, gone []api.Seg) []api.Seg {
	return slices.DeleteFunc(slices.Clone(l), func(s api.Seg) bool { return slices.Contains(gone, s) })
}

// tick is what there is behind a tick: its orders, the segments, the blobs.
func (p *plain) tick(w *world, now int, fates map[string]fault) (orders []api.Order, segs []api.Seg, blobs []string) {
	for at := range p.told {
		if t := &p.told[at]; t.fresh {
			t.fresh, t.heard = false, now
		}
	}
	segs, blobs = w.segs(), w.store.List()
	if p.look(w, fates["State"]) != api.OK {
		p.ticks = nil
		return nil, segs, blobs
	}
	p.forget(w.names(segs))
	if gone := covered(segs); len(gone) > 0 {
		code, done := p.done(fates["Do"])
		if done {
			segs = without(segs, gone)
		}
		if code != api.OK {
			p.ticks = nil
			return nil, segs, blobs
		}
	}
	blobs = p.sweep(now, blobs, w.names(segs), fates, w.setup.Retention)
	return p.order(now, shown(segs, span(0, end)), w.setup), segs, blobs
}

// names are those of the blobs of published segments.
func (w *world) names(segs []api.Seg) []string {
	var names []string
	for _, m := range w.log.State().Metas {
		if slices.Contains(segs, m.Seg) {
			names = append(names, m.Blob)
		}
	}
	return names
}

// forget takes names out of what was seen so far.
func (p *plain) forget(names []string) {
	for at := range p.ticks {
		p.ticks[at].loose = slices.DeleteFunc(p.ticks[at].loose, func(name string) bool { return slices.Contains(names, name) })
	}
}

// sweep is what there is behind the deletes.
func (p *plain) sweep(now int, blobs, named []string, fates map[string]fault, retention int) []string {
	saw := plainTick{now: now}
	if fates["List"].code == api.OK {
		saw.loose = slices.DeleteFunc(slices.Clone(blobs), func(name string) bool { return slices.Contains(named, name) })
	}
	p.ticks = append(p.ticks, saw)
	f := fates["Delete "]
	for _, name := range slices.Clone(saw.loose) {
		first := len(p.ticks)
		for first > 0 && slices.Contains(p.ticks[first-1].loose, name) {
			first--
		}
		if now-p.ticks[first].now < retention {
			continue
		}
		if f.code == api.OK || f.unheard {
			blobs = slices.DeleteFunc(blobs, func(other string) bool { return other == name })
		}
		if f.code == api.OK {
			p.forget([]string{name})
		}
	}
	return blobs
}

// order are the orders of a tick.
func (p *plain) order(now int, wanted []api.Seg, s api.Setup) []api.Order {
	var living []int
	var have, underWay []api.Order
	for at, t := range p.told {
		if !t.ever || now-t.heard > 3*s.Retry {
			continue
		}
		living = append(living, api.Store+at)
		for _, one := range t.segs {
			have = append(have, load(one, api.Store+at))
		}
	}
	for _, one := range p.sent {
		if t := p.told[one.order.Node-api.Store]; t.count <= uint64(one.tick) {
			underWay = append(underWay, one.order)
		}
	}
	orders := rules.Assign(wanted, rules.Apply(have, underWay), living, s.Replicas)
	for _, o := range orders {
		p.sent = append(p.sent, plainSent{o, now})
	}
	return orders
}

// compact is what Compact answers, and the segments behind it.
func (p *plain) compact(w *world, s api.Span, fates map[string]fault) (api.Errno, []api.Seg) {
	there := w.segs()
	if code := p.look(w, fates["State"]); code != api.OK {
		return code, there
	}
	together, some := api.Span{From: end}, false
	for _, one := range shown(there, span(0, end)) {
		if s.From <= one.Span.From && one.Span.To <= s.To {
			together.From, together.To, some = min(together.From, one.Span.From), max(together.To, one.Span.To), true
		}
	}
	if !some {
		return api.ErrNone, there
	}
	for time := together.From; time < together.To; time++ {
		if !slices.ContainsFunc(shown(there, span(0, end)), func(one api.Seg) bool {
			return s.From <= one.Span.From && one.Span.To <= s.To && one.Span.From <= time && time < one.Span.To
		}) {
			return api.ErrArg, there
		}
	}
	if len(shown(there, together)) < 2 {
		return api.ErrNone, there
	}
	return p.replace(there, []api.Span{together}, fates)
}

// wipe is what Wipe answers, and the segments behind it.
func (p *plain) wipe(w *world, s api.Span, fates map[string]fault) (api.Errno, []api.Seg) {
	there := w.segs()
	if code := p.look(w, fates["State"]); code != api.OK {
		return code, there
	}
	if s.From >= s.To || s.From < 0 {
		return api.ErrArg, there
	}
	var spans []api.Span
	for _, one := range shown(there, s) {
		if !slices.Contains(spans, one.Span) {
			spans = append(spans, one.Span)
		}
	}
	return p.replace(there, spans, fates)
}

func (p *plain) replace(there []api.Seg, spans []api.Span, fates map[string]fault) (api.Errno, []api.Seg) {
	var add []api.Seg
	for _, s := range spans {
		version := 1
		for _, one := range there {
			if one.Span.From < s.To && s.From < one.Span.To {
				version = max(version, one.Version+1)
			}
		}
		add = append(add, api.Seg{Span: s, Version: version, Core: 1})
	}
	for _, call := range []string{"Get ", "Put "} {
		if code := fates[call].code; len(spans) > 0 && code != api.OK {
			return code, there
		}
	}
	code, done := p.done(fates["Do"])
	if done {
		there = append(slices.Clone(there), add...)
	}
	return code, there
}

// throwFates are what calls come to that may fail.
func (s *stream) throwFates() map[string]fault {
	fates := map[string]fault{}
	for _, call := range []string{"State", "Do", "List", "Delete ", "Get ", "Put "} {
		if s.below(12) == 0 {
			fates[call] = []fault{lost, unheard, {code: api.ErrTerm}, {code: api.ErrEpoch}}[s.below(4)]
		}
	}
	return fates
}

// throwOthers is something that others do.
func (s *stream) throwOthers(w *world) {
	segs := w.segs()
	switch s.below(4) {
	case 0, 1:
		one := []api.Seg{chunkOf(0), chunkOf(10), chunkOf(20), seg(0, 20, 1, 0, 0), seg(10, 30, 1, 0, 1), seg(5, 15, 1, 0, 2), seg(30, 40, 1, 0, 2)}[s.below(7)]
		one.Version, one.Part = one.Version+s.below(3), s.below(2)
		conflict := slices.ContainsFunc(segs, func(o api.Seg) bool { return sameSet(o, one) && (o.Core != one.Core || o.Part == one.Part) })
		if !conflict {
			w.publish(one)
		}
	case 2:
		if len(segs) > 0 {
			w.retract(segs[s.below(len(segs))])
		}
	case 3:
		w.put([]string{"p", "q", "s"}[s.below(3)])
	}
}

// throwHave is a message of a historical node.
func (s *stream) throwHave(w *world, now int) api.Msg {
	var segs []api.Seg
	for _, one := range append(w.segs(), chunkOf(50)) {
		if s.below(2) == 0 {
			segs = append(segs, one)
		}
	}
	return have(api.Store+s.below(3), uint64(max(0, now-s.below(4)+1)), segs...)
}

// TestThrown: P21.1 to P21.5, elections, messages, ticks, what is put together and taken away, one behind the other, with others that are away, publish, lead, against what the document's words say.
func TestThrown(t *testing.T) {
	seen := map[api.Errno]int{}
	for seed := range 120 {
		thrown := stream(seed)
		s := ordinary()
		s.Retry, s.Retention, s.Replicas = 1+thrown.below(3), 1+thrown.below(6), 1+thrown.below(3)
		w := newWorld(t, s)
		n, p := w.node(api.Leader), &plain{id: api.Leader}
		for now := 1; now < 60; now++ {
			for range thrown.below(3) {
				thrown.throwOthers(w)
			}
			for range thrown.below(3) {
				m := thrown.throwHave(w, now)
				tell(n, m)
				p.have(m)
			}
			if thrown.below(25) == 0 {
				w.log.Elect(api.Leader + 1)
			}
			if p.term == 0 && thrown.below(3) == 0 || thrown.below(30) == 0 {
				p.elect(w, n, thrown.below(5) == 0)
			}
			expectTerm(t, n, p.term)
			for range thrown.below(2) {
				seen[thrown.throwRebuild(w, n, p)]++
			}
			w.expectPlainTick(n, p, now+now/7, thrown.throwFates())
		}
	}
	for _, code := range []api.Errno{api.OK, api.ErrArg, api.ErrNone, api.ErrTerm, api.ErrPower, api.ErrEpoch} {
		if seen[code] < 9 {
			t.Error("not thrown enough", seen)
		}
	}
}

func (p *plain) elect(w *world, n *Node, fails bool) {
	p.resign()
	if fails {
		w.fate = failing("Elect", unheard)
		expectCode(w.t, n.Elect(w), api.ErrPower)
		w.fate = nil
		return
	}
	expectCode(w.t, n.Elect(w), api.OK)
	p.term = w.log.State().Term
}

// throwRebuild puts something together, or takes it away: what was answered.
func (s *stream) throwRebuild(w *world, n *Node, p *plain) api.Errno {
	from := int64(s.below(6)*5 - 5)
	at := span(from, from+int64(s.below(8)*5))
	facts, epoch, fates := w.facts(), w.log.State().Epoch, s.throwFates()
	var want, got api.Errno
	var segs []api.Seg
	fate := func(call string) fault { return fates[call] }
	if s.below(3) > 0 {
		want, segs = p.compact(w, at, fates)
		w.fate = fate
		got = n.Compact(at, w, w)
		at = api.Span{}
	} else {
		want, segs = p.wipe(w, at, fates)
		w.fate = fate
		got = n.Wipe(at, w, w)
	}
	w.fate = nil
	expectCode(w.t, got, want)
	expectTerm(w.t, n, p.term)
	w.expectSegs(segs...)
	if w.log.State().Epoch > epoch {
		w.expectFacts(facts, at)
	} else {
		w.expectFacts(facts)
	}
	return want
}

func (w *world) expectPlainTick(n *Node, p *plain, now int, fates map[string]fault) {
	w.t.Helper()
	facts := w.facts()
	orders, segs, blobs := p.tick(w, now, fates)
	w.fate = func(call string) fault { return fates[call] }
	got := n.Tick(now, w, w)
	w.fate = nil
	expectTerm(w.t, n, p.term)
	expectOrders(w.t, got, p.id, p.term, orders...)
	w.expectSegs(segs...)
	w.expectBlobs(blobs...)
	w.expectFacts(facts)
}
