package realtime

import (
	"slices"

	"gristmill/api"
	"gristmill/away"
)

// seal makes a batch of the facts that are in none, if it was asked for, or they are many enough.
func (n *Node) seal() {
	due := n.asked || n.open() >= uint64(n.Batch)
	n.asked = false
	if !due {
		return
	}
	b, code := n.facts.Seal()
	if code != api.OK {
		// There is none without a fact.
		return
	}
	b.From += n.ahead
	b.To += n.ahead
	n.ways = append(n.ways, onWay(n.stream, n.Schema, b))
	n.sealed = b.To
}

// lookAfter finds out what became of the batches, and forgets those that it may.
func (n *Node) lookAfter(b api.Book) {
	if len(n.ways) == 0 {
		return
	}
	// While nobody tells the state nothing is known to be out of it.
	gone := func(api.Seg) bool { return false }
	if state, code := away.State(b); code == api.OK {
		n.settle(state)
		named := setOf(state.Metas)
		gone = func(s api.Seg) bool { return !named.has(s) }
	}
	for len(n.ways) > 0 && n.ways[0].mayGo(gone) {
		n.facts.Release(n.ways[0].Number)
		n.ways = slices.Delete(n.ways, 0, 1)
	}
}

// settle finds out whether the batch was published of which nothing is known: as they are published one behind the
// other, it is the first of those that aren't.
func (n *Node) settle(state api.State) {
	at := slices.IndexFunc(n.ways, func(w *way) bool { return !w.published })
	if at >= 0 && n.stream < len(state.Offsets) {
		n.ways[at].settle(state.Offsets[n.stream])
	}
}

// mayGo tells whether others have what is served of the batch, as far as it is still to be had.
func (w *way) mayGo(gone func(api.Seg) bool) bool {
	needed := func(p *part) bool { return !p.held && !gone(p.Seg) }
	return w.published && !slices.ContainsFunc(w.parts, needed)
}

// held takes it that a historical node has segments.
func (n *Node) held(segs []api.Seg) {
	there := segments{}
	for _, s := range segs {
		there[s] = struct{}{}
	}
	for _, w := range n.ways {
		// Those that nobody knows to be published, too: they may be. What isn't is named anew, and held by nobody then.
		for _, p := range w.parts {
			p.held = p.held || there.has(p.Seg)
		}
	}
}

// handOff publishes batches, one behind the other, till one can't be.
func (n *Node) handOff(b api.Book, d api.Deep) {
	for _, w := range n.ways {
		if !w.published && !n.publish(w, b, d) {
			return
		}
	}
}

// publish tells whether a batch is published now.
func (n *Node) publish(w *way, b api.Book, d api.Deep) bool {
	state, code := away.State(b)
	if code != api.OK || n.stream >= len(state.Offsets) {
		return false
	}
	if w.settle(state.Offsets[n.stream]) {
		return true
	}
	if state.Offsets[n.stream] != w.From || !w.putInto(d) {
		return false
	}
	w.name(state.Metas)
	if away.Do(b, w.txn(n.stream, state.Epoch)) == api.OK {
		w.publish()
		return true
	}
	// Whatever it answered: whether it was done stands in the state, now or when that is told again.
	w.unknown = true
	if state, code = away.State(b); code == api.OK {
		n.settle(state)
	}
	return w.published
}

// putInto puts the batch's blobs into deep storage, those that were there, too: what isn't named may have gone since.
func (w *way) putInto(d api.Deep) bool {
	return !slices.ContainsFunc(w.parts, func(p *part) bool { return away.Put(d, p.Blob, p.blob) != api.OK })
}

// tell tells the broker what is served, if that changed, or it is time to tell it again.
func (n *Node) tell(now int) []api.Msg {
	served := n.Served()
	again := len(served) > 0 && now-n.toldAt >= n.Retry
	if !again && slices.Equal(served, n.told) {
		return nil
	}
	n.told, n.toldAt = served, now
	return []api.Msg{{
		Kind: api.MsgHave, From: n.number(), To: api.Broker, Count: uint64(now), Segs: slices.Clone(served),
	}}
}

// segments are segments, each once.
type segments map[api.Seg]struct{}

func setOf(metas []api.Meta) segments {
	set := segments{}
	for _, m := range metas {
		set[m.Seg] = struct{}{}
	}
	return set
}

func (l segments) has(s api.Seg) bool {
	_, there := l[s]
	return there
}
