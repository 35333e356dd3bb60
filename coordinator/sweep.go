package coordinator

import (
	"slices"

	"gristmill/api"
	"gristmill/away"
)

// drop takes out of the metadata what others stand ahead of; v is what there is behind it.
func (n *Node) drop(v *view, b api.Book) api.Errno {
	// What is named at the beginning of a tick, and at its end no more, was named just now.
	for _, m := range v.Metas {
		delete(n.loose, m.Blob)
	}
	covered := v.line.Covered()
	if len(covered) == 0 {
		return api.OK
	}
	if code := n.do(b, api.Txn{Epoch: v.Epoch, Drop: covered}); code != api.OK {
		return code
	}
	// What counts at any time stays. The row is the book's own, perhaps.
	gone := func(m api.Meta) bool { return slices.Contains(covered, m.Seg) }
	v.Metas = slices.DeleteFunc(slices.Clone(v.Metas), gone)
	return api.OK
}

// sweep deletes the blobs that no meta has named for so long that nobody looks for them any more.
func (n *Node) sweep(now int, v *view, d api.Deep) {
	named, loose := v.names(), map[string]int{}
	// Of those of which nobody tells that they are there nothing is seen.
	there, _ := away.List(d)
	for _, name := range there {
		if named[name] > 0 {
			continue
		}
		since, before := n.loose[name]
		if !before {
			since = now
		}
		if !ago(n.setup.Retention, since, now) || away.Delete(d, name) != api.OK {
			loose[name] = since
		}
	}
	n.loose = loose
}
