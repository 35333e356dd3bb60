package realtime

import (
	"cmp"
	"strconv"

	"gristmill/api"
	"gristmill/blobname"
	"gristmill/intake"
	"gristmill/segment"
	"gristmill/wire"
)

// way is a batch on its way from its sealing to its forgetting. Its offsets are the stream's; its Chunks are none,
// as its parts have their facts.
type way struct {
	intake.Batch
	parts     []*part // by their chunks, as they rise
	unknown   bool    // it was asked to be published by the names that its parts have, and nothing is known of it
	published bool
}

// part is a segment of a batch: its meta, whose Seg is given ahead of each asking.
type part struct {
	api.Meta
	chunk   api.Span
	blob    []byte // none, once it is published
	segment *segment.Segment
	held    bool // a historical node told that it has it
}

// onWay is a batch of a stream, just sealed.
func onWay(stream int, s api.Schema, b intake.Batch) *way {
	w := &way{Batch: b}
	for _, c := range b.Chunks {
		for _, blob := range blobsOf(s, c.Facts) {
			w.parts = append(w.parts, w.partOf(stream, c.Span, blob))
		}
	}
	w.Chunks = nil
	return w
}

// blobsOf are facts as a segment's bytes; as those of several ones, if there are too many for one.
func blobsOf(s api.Schema, facts []api.Fact) [][]byte {
	blob, code := segment.Build(s, each(facts))
	if code == api.OK || len(facts) < 2 {
		return [][]byte{blob}
	}
	half := len(facts) / 2
	return append(blobsOf(s, facts[:half]), blobsOf(s, facts[half:])...)
}

// partOf is the next part of a batch, still without a name.
func (w *way) partOf(stream int, chunk api.Span, blob []byte) *part {
	// What was built just now is read.
	g, _ := segment.Read(blob)
	meta := api.Meta{Blob: w.blobName(stream, blob), Sum: wire.Sum(blob), Rows: g.Rows()}
	return &part{Meta: meta, chunk: chunk, blob: blob, segment: g}
}

// blobName tells which part of which facts of which stream it is, and so no two unlike contents have one name; behind a
// crash a stream may have other facts at its offsets, and those are told apart by the bytes' mark.
func (w *way) blobName(stream int, blob []byte) string {
	return blobname.Of("r"+strconv.Itoa(stream), blob, w.From, w.To, uint64(len(w.parts)))
}

// txn is the transaction that publishes the batch.
func (w *way) txn(stream, epoch int) api.Txn {
	t := api.Txn{Epoch: epoch, Moves: []api.Move{{Stream: stream, From: w.From, To: w.To}}}
	for _, p := range w.parts {
		t.Add = append(t.Add, p.Meta)
	}
	return t
}

// settle tells whether the batch is published, by how many facts of its stream are.
func (w *way) settle(published uint64) bool {
	if w.unknown && published >= w.To {
		w.publish()
	}
	w.unknown = false
	return w.published
}

func (w *way) publish() {
	w.published = true
	for _, p := range w.parts {
		p.blob = nil
	}
}

// byName is the order in which segments are told.
func byName(a, b api.Seg) int {
	return cmp.Or(
		cmp.Compare(a.Span.From, b.Span.From),
		cmp.Compare(a.Span.To, b.Span.To),
		cmp.Compare(a.Version, b.Version),
		cmp.Compare(a.Part, b.Part),
	)
}
