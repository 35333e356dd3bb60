package blob

import (
	"encoding/binary"
	"hash/crc32"
	"maps"
	"slices"
	"strings"
	"testing"

	"gristmill/api"
	"gristmill/disk"
)

// frame is a blob's frame, by another way than wire's.
func frame(body string) string {
	b := binary.LittleEndian.AppendUint32(nil, uint32(len(body)))
	b = append(b, body...)
	return string(append(binary.LittleEndian.AppendUint32(nil, crc32.ChecksumIEEE(b)), b...))
}

// plainFile is a file as two texts: what is synced, and what came behind it.
type plainFile struct{ synced, loose string }

func (f plainFile) all() string { return f.synced + f.loose }

// cutTo is a text's first part.
func cutTo(text string, part int) string { return text[:min(max(part, 0), len(text))] }

// plain is a store, and the disk below it, by the document's words.
type plain struct {
	files    map[string]plainFile
	ops      int
	off      bool
	at, part int
}

func newPlain() *plain { return &plain{files: map[string]plainFile{}, at: -1} }

func plainName(name string) bool {
	odd := func(r rune) bool { return r < '!' || r > '~' }
	return 1 <= len(name) && len(name) <= 62 && !strings.ContainsFunc(name, odd)
}

func (p *plain) cut(part int) {
	if p.off {
		return
	}
	for name, f := range p.files {
		p.files[name] = plainFile{synced: f.synced + cutTo(f.loose, part)}
	}
	p.off = true
}

// goes counts an operation, and tells whether it is done.
func (p *plain) goes() bool {
	p.ops++
	if p.ops-1 == p.at {
		p.cut(p.part)
	}
	return !p.off
}

func (p *plain) appends(name, b string) bool {
	f := p.files[name]
	p.files[name] = plainFile{f.synced, f.loose + b}
	return p.goes()
}

func (p *plain) syncs(name string) bool {
	if !p.goes() {
		return false
	}
	p.files[name] = plainFile{synced: p.files[name].all()}
	return true
}

func (p *plain) renames(from, to string) bool {
	if !p.goes() {
		return false
	}
	f := p.files[from]
	delete(p.files, from)
	p.files[to] = f
	return true
}

func (p *plain) removes(name string) bool {
	if !p.goes() {
		return false
	}
	delete(p.files, name)
	return true
}

func (p *plain) has(file string) bool {
	_, there := p.files[file]
	return there
}

func (p *plain) open() api.Errno {
	if p.off {
		return api.ErrPower
	}
	for _, name := range slices.Sorted(maps.Keys(p.files)) {
		if strings.HasPrefix(name, "t.") && !p.removes(name) {
			return api.ErrPower
		}
	}
	return api.OK
}

func (p *plain) put(name, b string) api.Errno {
	file, draft := "b."+name, "t."+name
	switch {
	case p.off:
		return api.ErrPower
	case !plainName(name) || len(b) > 1048576:
		return api.ErrArg
	case p.has(file) && p.files[file].all() == frame(b):
		return api.OK
	case p.has(file):
		return api.ErrTwice
	case p.has(draft) && !p.removes(draft):
		return api.ErrPower
	case len(p.files) == 1000:
		return api.ErrArg
	case p.appends(draft, frame(b)) && p.syncs(draft) && p.renames(draft, file):
		return api.OK
	}
	return api.ErrPower
}

func (p *plain) get(name string) (string, api.Errno) {
	switch {
	case p.off:
		return "", api.ErrPower
	case !plainName(name):
		return "", api.ErrArg
	case !p.has("b." + name):
		return "", api.ErrNone
	}
	all := p.files["b."+name].all()
	if len(all) < 8 || frame(all[8:]) != all {
		return "", api.ErrSum
	}
	return all[8:], api.OK
}

func (p *plain) list() []string {
	var names []string
	for _, name := range slices.Sorted(maps.Keys(p.files)) {
		if !p.off && strings.HasPrefix(name, "b.") && name != "b." {
			names = append(names, name[2:])
		}
	}
	return names
}

func (p *plain) delete(name string) api.Errno {
	switch {
	case p.off:
		return api.ErrPower
	case !plainName(name):
		return api.ErrArg
	case !p.has("b." + name):
		return api.ErrNone
	case !p.removes("b." + name):
		return api.ErrPower
	}
	return api.OK
}

// expectPlain holds a disk against what it should be.
func expectPlain(t *testing.T, d *disk.Disk, p *plain) {
	t.Helper()
	if d.Off() != p.off {
		t.Fatalf("off: %v, not %v", d.Off(), p.off)
	}
	expectOps(t, d, p.ops)
	var want []string
	for _, name := range slices.Sorted(maps.Keys(p.files)) {
		if !p.off {
			want = append(want, name, p.files[name].all())
		}
	}
	expectFiles(t, d, want...)
}

// opened is the store on a disk that may be opened.
func opened(t *testing.T, d *disk.Disk) *Store {
	t.Helper()
	s, code := Open(d)
	if code != api.OK || s == nil {
		t.Fatalf("Open: %v, %d", s, code)
	}
	return s
}

// notOpened: Open answers an error, and nothing with it.
func notOpened(t *testing.T, d *disk.Disk, want api.Errno) {
	t.Helper()
	if s, code := Open(d); code != want || s != nil {
		t.Fatalf("Open: %v, %d, not %d", s, code, want)
	}
}

// lay is a disk on which others laid files: name, bytes, name, bytes ..; nothing of them is synced.
func lay(t *testing.T, files ...string) *disk.Disk {
	t.Helper()
	d := disk.New()
	for at := 0; at < len(files); at += 2 {
		expectOK(t, d.Append(files[at], []byte(files[at+1])))
	}
	return d
}

func expectCode(t *testing.T, what string, got, want api.Errno) {
	t.Helper()
	if got != want {
		t.Fatalf("%s: %d, not %d", what, got, want)
	}
}

func expectOK(t *testing.T, codes ...api.Errno) {
	t.Helper()
	for at, code := range codes {
		if code != api.OK {
			t.Fatalf("call %d: %d", at, code)
		}
	}
}

// expectBlob: Get of a name tells just this.
func expectBlob(t *testing.T, s *Store, name, want string) {
	t.Helper()
	if got, code := s.Get(name); code != api.OK || string(got) != want {
		t.Fatalf("Get %.80q: %.80q, %d, not %.80q", name, got, code, want)
	}
}

// expectNone: Get of a name answers an error, and nothing with it.
func expectNone(t *testing.T, s *Store, name string, want api.Errno) {
	t.Helper()
	if got, code := s.Get(name); code != want || got != nil {
		t.Fatalf("Get %.80q: %.80q, %d, not %d", name, got, code, want)
	}
}

func expectList(t *testing.T, s *Store, want ...string) {
	t.Helper()
	if got := s.List(); !slices.Equal(got, want) {
		t.Fatalf("List: %q, not %q", got, want)
	}
}

// expectFiles: the disk has just these files: name, bytes, name, bytes .., rising.
func expectFiles(t *testing.T, d *disk.Disk, want ...string) {
	t.Helper()
	var got []string
	for _, name := range d.List("") {
		b, code := d.Read(name)
		expectOK(t, code)
		got = append(got, name, string(b))
	}
	if !slices.Equal(got, want) {
		t.Fatalf("files: %.200q, not %.200q", got, want)
	}
}

func expectOps(t *testing.T, d *disk.Disk, want int) {
	t.Helper()
	if got := d.Ops(); got != want {
		t.Fatalf("%d operations, not %d", got, want)
	}
}
