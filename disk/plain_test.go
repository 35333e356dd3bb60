package disk

import (
	"slices"
	"sort"
	"testing"

	"gristmill/api"
)

// plainFile is a file as two texts: what is synced, and what came behind it.
type plainFile struct {
	name, synced, loose string
}

// plainDisk does what the document's words say, one file behind the other.
type plainDisk struct {
	files    []plainFile
	ops      int
	off      bool
	at, part int
}

func newPlain() *plainDisk { return &plainDisk{at: -1} }

func (p *plainDisk) place(name string) int {
	return slices.IndexFunc(p.files, func(f plainFile) bool { return f.name == name })
}

func plainName(name string) bool {
	for at := range len(name) {
		if name[at] <= ' ' || name[at] >= 127 {
			return false
		}
	}
	return name != "" && len(name) <= 64
}

func (p *plainDisk) cut(part int) {
	if p.off {
		return
	}
	for at := range p.files {
		f := &p.files[at]
		for left := part; left > 0 && f.loose != ""; left-- {
			f.synced, f.loose = f.synced+f.loose[:1], f.loose[1:]
		}
		f.loose = ""
	}
	p.off = true
}

// do is the call of that word, with the answer that the document asks for.
func (p *plainDisk) do(word, name, to, b string) api.Errno {
	if p.off {
		return api.ErrPower
	}
	if !plainName(name) || word == "rename" && !plainName(to) {
		return api.ErrArg
	}
	at := p.place(name)
	if at < 0 && word == "append" && len(p.files) == 1000 {
		return api.ErrArg
	}
	if at < 0 && word != "append" {
		return api.ErrNone
	}
	if word == "read" {
		return api.OK
	}
	if at < 0 {
		at = len(p.files)
		p.files = append(p.files, plainFile{name: name})
	}
	if word == "append" {
		p.files[at].loose += b
	}
	p.ops++
	if p.ops-1 == p.at {
		p.cut(p.part)
		return api.ErrPower
	}
	p.change(word, at, to)
	return api.OK
}

// change does to a file what a word says that isn't refused, and isn't cut.
func (p *plainDisk) change(word string, at int, to string) {
	f := p.files[at]
	switch word {
	case "sync":
		p.files[at] = plainFile{name: f.name, synced: f.synced + f.loose}
	case "remove":
		p.files = slices.Delete(p.files, at, at+1)
	case "rename":
		p.files = slices.DeleteFunc(p.files, func(g plainFile) bool { return g.name == to || g.name == f.name })
		f.name = to
		p.files = append(p.files, f)
	}
}

// do is the call of that word on a disk.
func do(d *Disk, word, name, to, b string) api.Errno {
	switch word {
	case "append":
		return d.Append(name, []byte(b))
	case "sync":
		return d.Sync(name)
	case "rename":
		return d.Rename(name, to)
	case "remove":
		return d.Remove(name)
	}
	_, code := d.Read(name)
	return code
}

// expectPlain holds a disk against what it should be.
func expectPlain(t *testing.T, d *Disk, p *plainDisk) {
	t.Helper()
	if d.Off() != p.off || d.Ops() != p.ops {
		t.Fatalf("off %v, %d operations, not %v, %d", d.Off(), d.Ops(), p.off, p.ops)
	}
	var names []string
	for _, f := range p.files {
		if !p.off {
			names = append(names, f.name)
			expectFile(t, d, f.name, f.synced+f.loose)
		}
	}
	sort.Strings(names)
	expectList(t, d, "", names...)
}

func expectCode(t *testing.T, what string, got, want api.Errno) {
	t.Helper()
	if got != want {
		t.Fatalf("%s: %d, not %d", what, got, want)
	}
}

func expectOK(t *testing.T, codes ...api.Errno) {
	t.Helper()
	for at, code := range codes {
		if code != api.OK {
			t.Fatalf("call %d: %d", at, code)
		}
	}
}

// expectFile: Read of a name tells just this.
func expectFile(t *testing.T, d *Disk, name, want string) {
	t.Helper()
	if got, code := d.Read(name); code != api.OK || string(got) != want {
		t.Fatalf("Read %.80q: %.80q, %d, not %.80q", name, got, code, want)
	}
}

// expectNone: Read of a name answers an error, and nothing with it.
func expectNone(t *testing.T, d *Disk, name string, want api.Errno) {
	t.Helper()
	if got, code := d.Read(name); code != want || got != nil {
		t.Fatalf("Read %.80q: %.80q, %d, not %d", name, got, code, want)
	}
}

func expectList(t *testing.T, d *Disk, prefix string, want ...string) {
	t.Helper()
	if got := d.List(prefix); !slices.Equal(got, want) {
		t.Fatalf("List of %q: %q, not %q", prefix, got, want)
	}
}

func expectOps(t *testing.T, d *Disk, want int) {
	t.Helper()
	if got := d.Ops(); got != want {
		t.Fatalf("%d operations, not %d", got, want)
	}
}

// sample is a disk with the file a of x, synced, and y behind it, and b of pqr, nothing of it synced.
func sample(t *testing.T) *Disk {
	t.Helper()
	d := New()
	expectOK(t, d.Append("a", []byte("x")), d.Sync("a"), d.Append("a", []byte("y")), d.Append("b", []byte("pqr")))
	return d
}

// sampleOps is how many operations sample takes.
const sampleOps = 4

// plainSample is what sample should be.
func plainSample() *plainDisk {
	return &plainDisk{files: []plainFile{{"a", "x", "y"}, {"b", "", "pqr"}}, ops: sampleOps, at: -1}
}
