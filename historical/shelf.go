package historical

import (
	"cmp"
	"slices"

	"gristmill/api"
	"gristmill/blob"
	"gristmill/disk"
	"gristmill/segment"
	"gristmill/wire"
)

// held is a segment that is served.
type held struct {
	label
	segment *segment.Segment
}

// shelf is what a node serves, each segment by a blob on its disk: one that is there is served, and no other one is.
type shelf struct {
	store  *blob.Store
	schema api.Schema
	held   []held // by their segments
}

// openShelf is the shelf on a disk.
func openShelf(d *disk.Disk, s api.Schema) (*shelf, api.Errno) {
	store, code := blob.Open(d)
	if code != api.OK {
		return nil, code
	}
	f := &shelf{store: store, schema: s}
	for _, name := range store.List() {
		// Others may have blobs there, too.
		if l, own := labelOf(name); own {
			if code := f.reopen(l); code != api.OK {
				return nil, code
			}
		}
	}
	return f, api.OK
}

// reopen serves a segment again. What can't be read goes: it would count as served, should it be mended later on.
func (f *shelf) reopen(l label) api.Errno {
	at, there := f.find(l.seg)
	g := f.stored(l)
	if there || g == nil {
		return f.store.Delete(l.text())
	}
	f.held = slices.Insert(f.held, at, held{l, g})
	return api.OK
}

// stored is the segment of a label, as it is on the disk; nil, if it can't be read.
func (f *shelf) stored(l label) *segment.Segment {
	body, code := f.store.Get(l.text())
	if code != api.OK {
		return nil
	}
	b, code := wire.Frame(body)
	if code != api.OK {
		return nil
	}
	return f.read(b, l.sum)
}

// read is the segment of bytes; nil, unless they have this sum, and are one of the schema.
func (f *shelf) read(b []byte, sum uint32) *segment.Segment {
	if wire.Sum(b) != sum {
		return nil
	}
	g, code := segment.Read(b)
	if code != api.OK || g.Schema() != f.schema {
		return nil
	}
	return g
}

// put keeps a segment that isn't served, with its bytes. It is served only when all of them are synced.
func (f *shelf) put(l label, b []byte, g *segment.Segment) api.Errno {
	// The body alone is kept, which the blob's file frames again: with its frame a segment may be too long for a blob.
	body, code := wire.Unframe(b)
	if code != api.OK {
		return code
	}
	// What others laid under its name might be other bytes, or not synced.
	if code := f.store.Delete(l.text()); code != api.OK && code != api.ErrNone {
		return code
	}
	if code := f.store.Put(l.text(), body); code != api.OK {
		return code
	}
	at, _ := f.find(l.seg)
	f.held = slices.Insert(f.held, at, held{l, g})
	return api.OK
}

// remove takes a segment that is served off the disk.
func (f *shelf) remove(s api.Seg) api.Errno {
	at, there := f.find(s)
	if !there {
		return api.ErrNone
	}
	if code := f.store.Delete(f.held[at].text()); code != api.OK && code != api.ErrNone {
		return code
	}
	f.held = slices.Delete(f.held, at, at+1)
	return api.OK
}

// segment is what is served by a name; nil, if nothing is.
func (f *shelf) segment(s api.Seg) *segment.Segment {
	at, there := f.find(s)
	if !there {
		return nil
	}
	return f.held[at].segment
}

// segs are the segments that are served.
func (f *shelf) segs() []api.Seg {
	segs := make([]api.Seg, len(f.held))
	for at, h := range f.held {
		segs[at] = h.seg
	}
	return segs
}

// find tells at which place a segment is, or would be.
func (f *shelf) find(s api.Seg) (int, bool) {
	return slices.BinarySearchFunc(f.held, s, func(h held, s api.Seg) int { return byName(h.seg, s) })
}

// byName is the order in which segments are told. By their Cores none is to be told apart, but what is no timeline's may
// differ in them alone.
func byName(a, b api.Seg) int {
	return cmp.Or(
		cmp.Compare(a.Span.From, b.Span.From),
		cmp.Compare(a.Span.To, b.Span.To),
		cmp.Compare(a.Version, b.Version),
		cmp.Compare(a.Part, b.Part),
		cmp.Compare(a.Core, b.Core),
	)
}
