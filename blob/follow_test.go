package blob

import (
	"maps"
	"slices"
	"testing"

	"gristmill/api"
	"gristmill/disk"
)

// stream tells numbers that look thrown, the same ones at each run.
type stream uint64

func (s *stream) below(n int) int {
	*s = *s*6364136223846793005 + 1442695040888963407
	return int(uint64(*s) >> 31 % uint64(n))
}

func (s *stream) of(texts ...string) string { return texts[s.below(len(texts))] }

// TestThrown: P13.1 to P13.4, calls one behind the other, with others at the same files, against what the document's words say.
func TestThrown(t *testing.T) {
	for seed := range 400 {
		thrown := stream(seed)
		d, p := disk.New(), newPlain()
		s := opened(t, d)
		for range 150 {
			switch thrown.below(3) {
			case 0:
				throwBelow(t, &thrown, d, p)
			default:
				s = throwCall(t, &thrown, d, s, p)
			}
			expectPlain(t, d, p)
		}
	}
}

// throwBelow is what happens to the disk without the store.
func throwBelow(t *testing.T, thrown *stream, d *disk.Disk, p *plain) {
	t.Helper()
	part := thrown.below(14) - 1
	switch thrown.below(9) {
	case 0:
		p.at, p.part = p.ops+thrown.below(7)-1, part
		d.CutAt(p.at, part)
	case 1:
		p.cut(part)
		d.Cut(part)
	case 2, 3, 4, 5:
		p.off = false
		d.On()
	default:
		throwOther(t, thrown, d, p)
	}
}

// throwOther is what somebody else does to a file, while the power is on.
func throwOther(t *testing.T, thrown *stream, d *disk.Disk, p *plain) {
	t.Helper()
	file := thrown.of("b.x", "t.x", "b.y", "t.y", "t.", "b.", "t", "bx")
	word := thrown.of("append", "sync", "remove")
	if p.off || !p.has(file) && word != "append" {
		return
	}
	var done bool
	var code api.Errno
	switch word {
	case "append":
		done, code = p.appends(file, "!"), d.Append(file, []byte("!"))
	case "sync":
		done, code = p.syncs(file), d.Sync(file)
	case "remove":
		done, code = p.removes(file), d.Remove(file)
	}
	if done != (code == api.OK) {
		t.Fatalf("%s %s: %d", word, file, code)
	}
}

// throwCall is a call of the store; the store behind it, which is another one if it was opened.
func throwCall(t *testing.T, thrown *stream, d *disk.Disk, s *Store, p *plain) *Store {
	t.Helper()
	name := thrown.of("x", "x", "y", "y", "z", "t.x", "", "a b")
	switch thrown.below(8) {
	case 0:
		fresh, code := Open(d)
		expectCode(t, "Open", code, p.open())
		if (fresh != nil) != (code == api.OK) {
			t.Fatalf("Open: %v, %d", fresh, code)
		}
		if fresh != nil {
			return fresh
		}
	case 1, 2, 3:
		b := thrown.of("", "a", "ab", "ab", "abc")
		expectCode(t, "Put "+name, s.Put(name, []byte(b)), p.put(name, b))
	case 4, 5:
		got, code := s.Get(name)
		want, wanted := p.get(name)
		if code != wanted || string(got) != want || code != api.OK && got != nil {
			t.Fatalf("Get %s: %q, %d, not %q, %d", name, got, code, want, wanted)
		}
	case 6:
		expectList(t, s, p.list()...)
	case 7:
		expectCode(t, "Delete "+name, s.Delete(name), p.delete(name))
	}
	return s
}

// step is a Put of a blob, or, if it goes, its Delete.
type step struct {
	goes       bool
	name, body string
}

func (c step) on(s *Store) api.Errno {
	if c.goes {
		return s.Delete(c.name)
	}
	return s.Put(c.name, []byte(c.body))
}

// done notes what must be there behind it.
func (c step) done(there map[string]string) {
	if c.goes {
		delete(there, c.name)
	} else {
		there[c.name] = c.body
	}
}

func someSteps() []step {
	return []step{
		{name: "x", body: "ab"}, {name: "y", body: ""}, {name: "x", body: "ab"}, {name: "z", body: "a longer blob"}, {goes: true, name: "y"},
		{name: "y", body: "anew"}, {goes: true, name: "x"}, {name: "t.y", body: "c"}, {name: "x", body: "cd"}, {goes: true, name: "z"}, {name: "z", body: "ef"},
	}
}

// stepOps is how many operations the steps take: seven blobs are written, three deleted, one Put does nothing.
const stepOps = 7*3 + 3

// goOn does steps till one is told that the power is off; what must be there then, and how many were done.
func goOn(t *testing.T, s *Store, steps []step, there map[string]string) int {
	t.Helper()
	for at, c := range steps {
		code := c.on(s)
		if code == api.ErrPower {
			return at
		}
		expectCode(t, c.name, code, api.OK)
		c.done(there)
	}
	return len(steps)
}

// expectThere: just these blobs are there, as they were put.
func expectThere(t *testing.T, s *Store, there map[string]string) {
	t.Helper()
	expectList(t, s, slices.Sorted(maps.Keys(there))...)
	for name, body := range there {
		expectBlob(t, s, name, body)
	}
}

// TestFollows: P13.4, wherever the power goes off, once or twice: of a store that is opened then there are just the blobs whose Put was answered OK, and that weren't deleted, as they were put; the steps may go on from there.
func TestFollows(t *testing.T) {
	steps := someSteps()
	for first := range stepOps + 1 {
		for later := range 6 {
			for _, part := range []int{-1, 0, 1, 7, 8, 9, 10, 99} {
				d, there := disk.New(), map[string]string{}
				d.CutAt(first, part)
				at := goOn(t, opened(t, d), steps, there)
				if (at < len(steps)) != (first < stepOps) || d.Off() != (first < stepOps) {
					t.Fatalf("cut at %d: %d steps, off %v", first, at, d.Off())
				}
				d.Cut(part)
				s := openedAgain(t, d, d.Ops()+later, part)
				expectThere(t, s, there)
				at += goOn(t, s, steps[at:], there)
				d.Cut(part)
				s = openedAgain(t, d, -1, part)
				expectThere(t, s, there)
				if goOn(t, s, steps[at:], there) != len(steps)-at {
					t.Fatalf("the power went off though no cut was planned")
				}
				expectThere(t, s, map[string]string{"t.y": "c", "x": "cd", "y": "anew", "z": "ef"})
				if drafts := d.List("t."); len(drafts) != 0 {
					t.Fatalf("drafts: %q", drafts)
				}
			}
		}
	}
}

// openedAgain is the store behind a cut, with another one to come, maybe while it is opened: then it is opened once more.
func openedAgain(t *testing.T, d *disk.Disk, op, part int) *Store {
	t.Helper()
	d.On()
	d.CutAt(op, part)
	s, code := Open(d)
	if code == api.ErrPower && s == nil {
		d.On()
		return opened(t, d)
	}
	expectOK(t, code)
	return s
}

// TestNeverChanges: P13.4, once it is there a blob has the same bytes, whatever is put, deleted, opened and cut beside it, till it is deleted itself.
func TestNeverChanges(t *testing.T) {
	for seed := range 60 {
		thrown := stream(seed)
		d := disk.New()
		s := opened(t, d)
		expectOK(t, s.Put("kept", []byte("for ever")))
		for range 60 {
			name := thrown.of("kep", "kept", "kept2", "x")
			d.CutAt(d.Ops()+thrown.below(9), thrown.below(20))
			if name != "kept" && thrown.below(3) == 0 {
				s.Delete(name)
			} else {
				s.Put(name, []byte(thrown.of("", "for", "for ever", "for ever!")))
			}
			if thrown.below(4) == 0 {
				d.Cut(thrown.below(9))
			}
			if d.Off() {
				d.On()
				s = openedAgain(t, d, -1, 0)
			}
			expectBlob(t, s, "kept", "for ever")
		}
		d.CutAt(-1, 0)
		expectOK(t, s.Delete("kept"))
		expectNone(t, s, "kept", api.ErrNone)
	}
}
