package historical

import (
	"slices"
	"testing"

	"gristmill/api"
	"gristmill/disk"
	"gristmill/wire"
)

// framed is a frame of a body, which may be none of a segment.
func framed(t *testing.T, body string) string {
	t.Helper()
	b, code := wire.Frame([]byte(body))
	expectCode(t, code, api.OK)
	return string(b)
}

// filesOf are the files that a load of a segment makes.
func filesOf(t *testing.T, w *world, d *disk.Disk, n *Node, s api.Seg) []string {
	t.Helper()
	before := d.List("")
	tell(t, n, toLoad(1, s))
	n.Tick(1, w, w)
	files := slices.DeleteFunc(d.List(""), func(name string) bool { return slices.Contains(before, name) })
	if len(files) == 0 {
		t.Fatal("nothing is kept")
	}
	return files
}

// expectSpoilt: a node that is made anew serves the other segment alone, and so does the next one; the spoilt one can be loaded anew.
func expectSpoilt(t *testing.T, w *world, d *disk.Disk) {
	t.Helper()
	w.expectJust(w.node(d), chunkOf(0))
	n := w.node(d)
	w.expectJust(n, chunkOf(0))
	tell(t, n, toLoad(1, chunkOf(10)))
	expectMsgs(t, n.Tick(1, w, w), w.haves(1, chunkOf(0), chunkOf(10))...)
	w.expectJust(n, chunkOf(0), chunkOf(10))
	rise(d, 0)
	n = w.node(d)
	w.expectJust(n, chunkOf(0), chunkOf(10))
	tell(t, n, toDrop(1, chunkOf(10)))
	n.Tick(1, w, w)
	w.expectJust(w.node(d), chunkOf(0))
}

// twoKept is a disk on which two segments are kept, and the files of each.
func twoKept(t *testing.T) (w *world, d *disk.Disk, first, second []string) {
	t.Helper()
	w, d, n := rigged(t, ordinary())
	w.publish(chunkOf(0), chunkOf(10))
	first = filesOf(t, w, d, n, chunkOf(0))
	return w, d, first, filesOf(t, w, d, n, chunkOf(10))
}

// TestSpoilt: P20.1, P20.6, a file of a segment is another one than it was: the segment isn't served, the others are.
func TestSpoilt(t *testing.T) {
	c := ordinary().Schema
	other := string(bytesOf(t, c, factsOf(c, chunkOf(20))))
	others := string(bytesOf(t, api.Schema{Dims: 2, Meas: 1}, factsOf(api.Schema{Dims: 2, Meas: 1}, chunkOf(10))))
	wrong := []string{"", "!", other, other[8:], others, others[8:], framed(t, ""), framed(t, "nothing"), framed(t, other), framed(t, others)}
	_, d, _, files := twoKept(t)
	for _, name := range files {
		b, _ := d.Read(name)
		good := string(b)
		wrong = append(wrong, good+"\x00", good+good, "\x00"+good, framed(t, good))
		for at := range good {
			wrong = append(wrong, good[:at], good[:at]+string([]byte{good[at] ^ 1})+good[at+1:])
		}
		for _, b := range wrong {
			w, d, _, _ := twoKept(t)
			write(t, d, name, []byte(b))
			expectSpoilt(t, w, d)
		}
	}
}

// TestGone: P20.1, a file of a segment is gone, or has another name, or another's file has its.
func TestGone(t *testing.T) {
	_, _, firsts, seconds := twoKept(t)
	for k, name := range seconds {
		w, d, _, _ := twoKept(t)
		expectCode(t, d.Remove(name), api.OK)
		expectSpoilt(t, w, d)
		w, d, _, _ = twoKept(t)
		expectCode(t, d.Rename(name, "b.x"), api.OK)
		expectSpoilt(t, w, d)
		w, d, _, _ = twoKept(t)
		b, _ := d.Read(firsts[min(k, len(firsts)-1)])
		write(t, d, name, b)
		expectSpoilt(t, w, d)
	}
}

// TestSpoiltWhileServed: P20.4, P20.6, what others do to the files of a node that is there changes none of its facts, and is in the way of no order.
func TestSpoiltWhileServed(t *testing.T) {
	for _, gone := range []bool{false, true} {
		w, d, n := rigged(t, ordinary())
		w.publish(chunkOf(0))
		own := filesOf(t, w, d, n, chunkOf(0))
		for _, name := range own {
			if gone {
				expectCode(t, d.Remove(name), api.OK)
			} else {
				write(t, d, name, []byte("spoilt"))
			}
		}
		w.expectJust(n, chunkOf(0))
		tell(t, n, toDrop(1, chunkOf(0)))
		expectMsgs(t, n.Tick(2, w, w), w.haves(2)...)
		w.expectJust(n)
		expectWaiting(t, n, 0)
		if files := d.List(""); len(files) != 0 {
			t.Fatal("its bytes are there still", files)
		}
	}
}

// TestInTheWay: P20.4, P20.6, what others lay under the names of a segment that isn't served, the very bytes, too, unsynced: it is loaded, and lasts.
func TestInTheWay(t *testing.T) {
	for _, b := range []string{"", "spoilt", "the same"} {
		w, d, n := rigged(t, ordinary())
		w.publish(chunkOf(0))
		own := filesOf(t, w, d, n, chunkOf(0))
		good := map[string][]byte{}
		for _, name := range own {
			good[name], _ = d.Read(name)
		}
		tell(t, n, toDrop(1, chunkOf(0)))
		n.Tick(2, w, w)
		for _, name := range own {
			laid := []byte(b)
			if b == "the same" {
				laid = good[name]
			}
			expectCode(t, d.Append(name, laid), api.OK)
		}
		w.expectJust(n)
		tell(t, n, toLoad(1, chunkOf(0)))
		expectMsgs(t, n.Tick(3, w, w), w.haves(3, chunkOf(0))...)
		w.expectJust(n, chunkOf(0))
		rise(d, 0)
		w.expectJust(w.node(d), chunkOf(0))
	}
}

// TestInTheWayCuts: P20.4, P20.6, the power goes off at each operation by which something of others gives way.
func TestInTheWayCuts(t *testing.T) {
	for op := 0; ; op++ {
		w, d, n := rigged(t, ordinary())
		w.publish(chunkOf(0))
		own := filesOf(t, w, d, n, chunkOf(0))
		tell(t, n, toDrop(1, chunkOf(0)))
		n.Tick(2, w, w)
		for _, name := range own {
			write(t, d, name, []byte("spoilt"))
		}
		d.CutAt(d.Ops()+op, 0)
		tell(t, n, toLoad(1, chunkOf(0)))
		l := n.Tick(3, w, w)
		if !d.Off() {
			w.expectJust(n, chunkOf(0))
			return
		}
		expectMsgs(t, l)
		w.expectStopped(n)
		rise(d, 0)
		n = w.node(d)
		w.expectJust(n)
		tell(t, n, toLoad(1, chunkOf(0)))
		n.Tick(4, w, w)
		w.expectJust(n, chunkOf(0))
	}
}
