package disk

import (
	"slices"
	"testing"

	"gristmill/api"
)

// stream tells numbers that look thrown, the same ones at each run.
type stream uint64

func (s *stream) below(n int) int {
	*s = *s*6364136223846793005 + 1442695040888963407
	return int(uint64(*s) >> 31 % uint64(n))
}

func (s *stream) of(texts ...string) string { return texts[s.below(len(texts))] }

// TestThrown: P12.1 to P12.5, calls one behind the other, against what the document's words say.
func TestThrown(t *testing.T) {
	for seed := range 300 {
		thrown := stream(seed)
		d, p := New(), newPlain()
		for range 200 {
			throwOne(t, &thrown, d, p)
			expectPlain(t, d, p)
		}
	}
}

func throwOne(t *testing.T, thrown *stream, d *Disk, p *plainDisk) {
	t.Helper()
	part := thrown.below(7) - 1
	switch thrown.below(12) {
	case 0:
		p.at, p.part = p.ops+thrown.below(8)-2, part
		d.CutAt(p.at, part)
	case 1:
		p.cut(part)
		d.Cut(part)
	case 2, 3:
		p.off = false
		d.On()
	default:
		word := thrown.of("append", "append", "append", "sync", "rename", "remove", "read")
		name, to := thrown.of("a", "b", "c", "ab", ""), thrown.of("a", "b", "c", "ab", "a b")
		b := thrown.of("", "1", "23", "456", "789012")
		expectCode(t, word+" "+name+" "+to, do(d, word, name, to, b), p.do(word, name, to, b))
	}
}

// kept is what must be known of a file: the text that was synced last, and what was appended since.
type kept struct{ synced, since string }

// step is a call, and what it does to what must be known, if it is done, and if the power goes off at it.
type step struct {
	call func(*Disk) api.Errno
	done func(map[string]kept)
	cut  func(map[string]kept)
}

func nothing(map[string]kept) {}

func appends(name, b string) step {
	done := func(m map[string]kept) { m[name] = kept{m[name].synced, m[name].since + b} }
	return step{func(d *Disk) api.Errno { return d.Append(name, []byte(b)) }, done, done}
}

func syncs(name string) step {
	return step{
		func(d *Disk) api.Errno { return d.Sync(name) },
		func(m map[string]kept) { m[name] = kept{synced: m[name].synced + m[name].since} },
		nothing,
	}
}

func renames(from, to string) step {
	return step{
		func(d *Disk) api.Errno { return d.Rename(from, to) },
		func(m map[string]kept) {
			k := m[from]
			delete(m, from)
			m[to] = k
		},
		nothing,
	}
}

func removes(name string) step {
	return step{
		func(d *Disk) api.Errno { return d.Remove(name) },
		func(m map[string]kept) { delete(m, name) },
		nothing,
	}
}

func someSteps() []step {
	return []step{
		appends("a", "xy"), syncs("a"), appends("a", "z"), appends("t", "draft"), appends("a", "12"), syncs("t"), renames("t", "b"),
		appends("b", "more"), renames("a", "c"), appends("a", "anew"), syncs("c"), appends("c", "34"), renames("c", "a"), removes("b"),
		appends("b", "q"), appends("a", "5"), renames("a", "a"), syncs("b"), renames("b", "a"), appends("a", "rst"), removes("a"), appends("a", "u"),
	}
}

// TestFollows: P12.5, wherever the power goes off: what was synced is there under its last name, with a beginning of what was appended since; renames and removals last.
func TestFollows(t *testing.T) {
	steps := someSteps()
	for op := range len(steps) + 1 {
		for part := -1; part < 9; part++ {
			d, known := New(), map[string]kept{}
			d.CutAt(op, part)
			for at, s := range steps[:op] {
				expectCode(t, "a step ahead of the cut", s.call(d), api.OK)
				s.done(known)
				expectOps(t, d, at+1)
			}
			if op < len(steps) {
				expectCode(t, "the step at the cut", steps[op].call(d), api.ErrPower)
				steps[op].cut(known)
			} else {
				d.Cut(part)
			}
			d.On()
			expectKept(t, d, known, part)
		}
	}
}

// expectKept: of each file that must be known, and of no other one, there is what was synced, and the first part of what was appended since.
func expectKept(t *testing.T, d *Disk, known map[string]kept, part int) {
	t.Helper()
	var names []string
	for name, k := range known {
		names = append(names, name)
		expectFile(t, d, name, k.synced+k.since[:min(max(part, 0), len(k.since))])
	}
	slices.Sort(names)
	expectList(t, d, "", names...)
}

// TestLastAtOnce: P12.5, renames and removals of files that were never synced last, too.
func TestLastAtOnce(t *testing.T) {
	d := New()
	expectOK(t, d.Append("a", []byte("x")), d.Append("b", []byte("y")), d.Append("c", []byte("z")), d.Sync("c"))
	expectOK(t, d.Rename("a", "n"), d.Remove("b"), d.Rename("c", "m"))
	d.Cut(0)
	d.On()
	expectList(t, d, "", "m", "n")
	expectFile(t, d, "m", "z")
	expectFile(t, d, "n", "")
	expectOK(t, d.Remove("m"))
	d.Cut(9)
	d.On()
	expectList(t, d, "", "n")
}
