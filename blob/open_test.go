package blob

import (
	"strconv"
	"strings"
	"testing"

	"gristmill/api"
	"gristmill/disk"
)

// TestOpenOfNil: P13.1, ErrArg, and no store.
func TestOpenOfNil(t *testing.T) {
	notOpened(t, nil, api.ErrArg)
}

// TestOpenOff: P13.1, ErrPower while the power is off, with drafts and without: nothing is removed.
func TestOpenOff(t *testing.T) {
	d := lay(t, "b.x", frame("ab"), "t.y", "draft")
	d.Cut(99)
	for range 2 {
		notOpened(t, d, api.ErrPower)
		expectOps(t, d, 2)
	}
	d.On()
	expectFiles(t, d, "b.x", frame("ab"), "t.y", "draft")
	empty := disk.New()
	empty.Cut(0)
	notOpened(t, empty, api.ErrPower)
	empty.On()
	expectList(t, opened(t, empty))
}

// TestOpenWithoutDrafts: P13.1, nothing is done, however often.
func TestOpenWithoutDrafts(t *testing.T) {
	d := disk.New()
	expectList(t, opened(t, d))
	expectOps(t, d, 0)
	d = lay(t, "b.x", frame("ab"), "b.y", "no frame")
	for range 3 {
		expectList(t, opened(t, d), "x", "y")
		expectOps(t, d, 2)
	}
	expectFiles(t, d, "b.x", frame("ab"), "b.y", "no frame")
}

// TestOpenRemovesDrafts: P13.1, all files whose names begin so, each by an operation, of blobs that are there, too.
func TestOpenRemovesDrafts(t *testing.T) {
	longest := "t." + strings.Repeat("n", 62)
	d := lay(t, "t.y", "draft", "t.", "", "t.x", frame("cd"), "b.x", frame("ab"), longest, "", "t.t.x", "z", "t.b.x", "")
	s := opened(t, d)
	expectOps(t, d, 7+6)
	expectFiles(t, d, "b.x", frame("ab"))
	expectList(t, s, "x")
	expectBlob(t, s, "x", "ab")
}

// TestOpenLeavesOthers: P13.1, files of others, names that have the letter without the point among them, stay as they are.
func TestOpenLeavesOthers(t *testing.T) {
	names := []string{"!t.x", "T.x", "at.x", "b", "b!x", "b.", "b.t.x", "b.x", "bx", "log", "t", "t!x", "t-", "tt", "tt.x", "tx", "u.x"}
	var files []string
	for at, name := range names {
		files = append(files, name, strings.Repeat("z", at))
	}
	d := lay(t, files...)
	s := opened(t, d)
	expectOps(t, d, len(names))
	expectFiles(t, d, files...)
	expectOK(t, d.Append("t.x", nil))
	s = opened(t, d)
	expectOps(t, d, len(names)+2)
	expectFiles(t, d, files...)
	expectList(t, s, "t.x", "x")
}

// TestOpenCut: P13.1, the power goes off at one of the removals: those ahead of it by rising names are done, the drafts from it on are still there.
func TestOpenCut(t *testing.T) {
	names := []string{"t.!", "t.10", "t.9", "t.A", "t.a", "t.a!", "t.ab", "t.b", "t.~"}
	laid := []int{4, 0, 8, 2, 6, 1, 7, 3, 5}
	for cut := range names {
		d := lay(t, "b.x", frame("ab"))
		for _, at := range laid {
			expectOK(t, d.Append(names[at], []byte(strconv.Itoa(at))), d.Sync(names[at]))
		}
		expectOK(t, d.Sync("b.x"))
		ahead := d.Ops()
		d.CutAt(ahead+cut, 0)
		notOpened(t, d, api.ErrPower)
		expectOps(t, d, ahead+cut+1)
		notOpened(t, d, api.ErrPower)
		expectOps(t, d, ahead+cut+1)
		d.On()
		left := []string{"b.x", frame("ab")}
		for at := cut; at < len(names); at++ {
			left = append(left, names[at], strconv.Itoa(at))
		}
		expectFiles(t, d, left...)
		s := opened(t, d)
		expectOps(t, d, ahead+cut+1+len(names)-cut)
		expectFiles(t, d, "b.x", frame("ab"))
		expectBlob(t, s, "x", "ab")
	}
}

// TestExample: the document's table.
func TestExample(t *testing.T) {
	d := disk.New()
	s := opened(t, d)
	expectOK(t, s.Put("x", []byte("ab")), s.Put("x", []byte("ab")))
	expectCode(t, "Put x c", s.Put("x", []byte("c")), api.ErrTwice)
	expectBlob(t, s, "x", "ab")
	expectNone(t, s, "y", api.ErrNone)
	expectFiles(t, d, "b.x", frame("ab"))
	expectOK(t, d.Append("b.x", []byte("!")))
	expectNone(t, s, "x", api.ErrSum)
	d.CutAt(d.Ops(), 3)
	expectCode(t, "Put y ab", s.Put("y", []byte("ab")), api.ErrPower)
	d.On()
	expectFiles(t, d, "b.x", frame("ab")+"!", "t.y", frame("ab")[:3])
	s = opened(t, d)
	expectList(t, s, "x")
	expectCode(t, "Put of 63 bytes' name", s.Put(strings.Repeat("n", 63), nil), api.ErrArg)
	expectCode(t, "Delete y", s.Delete("y"), api.ErrNone)
}

// TestNil: P13.1, every call of a nil store: ErrArg, nothing, and no panic; one that Open didn't make is none, either.
func TestNil(t *testing.T) {
	for _, s := range []*Store{nil, {}} {
		for _, name := range []string{"x", "", "a b", strings.Repeat("n", 63)} {
			for _, b := range [][]byte{nil, []byte("ab"), make([]byte, api.MaxBytes+1)} {
				expectCode(t, "Put", s.Put(name, b), api.ErrArg)
			}
			expectNone(t, s, name, api.ErrArg)
			expectCode(t, "Delete", s.Delete(name), api.ErrArg)
			if names := s.List(); names != nil {
				t.Errorf("List: %q", names)
			}
		}
	}
}
