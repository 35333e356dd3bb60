package dict

import (
	"gristmill/api"
	"gristmill/wire"
)

// leastOfText is how many bytes a text takes at least: the length of its beginning, and its rest's.
const leastOfText = 2

// Bytes are the dictionary's.
func (d *Dict) Bytes() []byte {
	if d == nil {
		return nil
	}
	out := wire.Uint(nil, uint64(len(d.texts)))
	ahead := ""
	for _, text := range d.texts {
		same := sameBeginning(ahead, text)
		// Appended piece by piece: wire copies what it is handed, each time.
		out = append(out, wire.Uint(nil, uint64(same))...)
		out = append(out, wire.Text(nil, text[same:])...)
		ahead = text
	}
	return out
}

// Parse is the dictionary of bytes.
func Parse(b []byte) (*Dict, api.Errno) {
	r := wire.Read(b)
	count := r.Count(leastOfText)
	d := &Dict{}
	fits := count <= api.MaxFacts
	for range count {
		same, rest := r.Uint(), r.Text()
		// What doesn't fit is read on to its end all the same: the reader's errors come first.
		fits = fits && d.add(same, rest)
	}
	if e := r.End(); e != api.OK {
		return nil, e
	}
	if !fits {
		return nil, api.ErrForm
	}
	return d, api.OK
}

// add puts a text behind the others, and tells whether it may stand there, written so.
func (d *Dict) add(same uint64, rest string) bool {
	ahead := ""
	if last := len(d.texts) - 1; last >= 0 {
		ahead = d.texts[last]
	}
	if same > uint64(len(ahead)) {
		return false
	}
	text := ahead[:same] + rest
	rises := len(d.texts) == 0 || text > ahead
	if !rises || tooLong(text) || sameBeginning(ahead, text) != int(same) {
		return false
	}
	d.texts = append(d.texts, text)
	return true
}

// sameBeginning is how many bytes both texts begin with, as many as may be.
func sameBeginning(a, b string) int {
	for at := range min(len(a), len(b)) {
		if a[at] != b[at] {
			return at
		}
	}
	return min(len(a), len(b))
}
