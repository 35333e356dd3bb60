package disk

// file is bytes, of which so many from the first one on are synced.
type file struct {
	bytes  []byte
	synced int
}

func (f *file) add(b []byte) { f.bytes = append(f.bytes, b...) }

func (f *file) sync() { f.synced = len(f.bytes) }

// cut loses what isn't synced, but for the first part of it.
func (f *file) cut(part int) {
	// A part may be as great as numbers are, so it is made small enough ahead of adding it.
	loose := len(f.bytes) - f.synced
	f.bytes = f.bytes[:f.synced+min(max(part, 0), loose)]
	f.sync()
}
