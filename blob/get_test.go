package blob

import (
	"slices"
	"strings"
	"testing"

	"gristmill/api"
	"gristmill/disk"
)

// TestGet: P13.3, a blob's bytes, ErrNone of one that isn't there; it is no operation.
func TestGet(t *testing.T) {
	d := disk.New()
	s := opened(t, d)
	expectNone(t, s, "x", api.ErrNone)
	expectOK(t, s.Put("x", []byte("ab")), s.Put("xy", []byte("cd")))
	d.CutAt(6, 0)
	for range 3 {
		expectBlob(t, s, "x", "ab")
		expectBlob(t, s, "xy", "cd")
		for _, name := range []string{"y", "X", "xx", "b.x", "t.x", "xyz", strings.Repeat("x", 62)} {
			expectNone(t, s, name, api.ErrNone)
		}
		expectList(t, s, "x", "xy")
	}
	expectOps(t, d, 6)
}

// TestGetOfDraft: P13.3, a draft is no blob, even if it is a whole frame.
func TestGetOfDraft(t *testing.T) {
	d := disk.New()
	s := opened(t, d)
	expectOK(t, d.Append("t.x", []byte(frame("ab"))), d.Sync("t.x"), d.Append("x", []byte(frame("ab"))))
	expectNone(t, s, "x", api.ErrNone)
	expectCode(t, "Delete", s.Delete("x"), api.ErrNone)
	expectList(t, s)
	expectFiles(t, d, "t.x", frame("ab"), "x", frame("ab"))
}

// replace puts other bytes into a file.
func replace(t *testing.T, d *disk.Disk, file, b string) {
	t.Helper()
	expectOK(t, d.Remove(file), d.Append(file, []byte(b)))
}

// TestGetOfNoFrame: P13.3, ErrSum, whatever is wrong: each byte changed, bytes missing, bytes too many, none, more than MaxBytes.
func TestGetOfNoFrame(t *testing.T) {
	d := disk.New()
	s := opened(t, d)
	expectOK(t, s.Put("x", []byte("a blob")))
	good := frame("a blob")
	wrong := []string{"", "a blob", good + "!", good + "\x00", good + good, "\x00" + good, strings.Repeat("\x00", 8), frame(strings.Repeat("z", api.MaxBytes+1))}
	for at := range good {
		wrong = append(wrong, good[:at])
		for bit := range 8 {
			changed := []byte(good)
			changed[at] ^= 1 << bit
			wrong = append(wrong, string(changed))
		}
	}
	for _, b := range wrong {
		replace(t, d, "b.x", b)
		expectNone(t, s, "x", api.ErrSum)
		expectList(t, s, "x")
	}
	replace(t, d, "b.x", good)
	expectBlob(t, s, "x", "a blob")
	expectOK(t, s.Put("x", []byte("a blob")))
}

// TestOfOthers: P13.3, a store keeps nothing but the disk: what others did to its files counts.
func TestOfOthers(t *testing.T) {
	d := disk.New()
	s := opened(t, d)
	expectOK(t, s.Put("x", []byte("ab")), d.Remove("b.x"))
	expectNone(t, s, "x", api.ErrNone)
	expectCode(t, "Delete", s.Delete("x"), api.ErrNone)
	expectList(t, s)
	expectOK(t, s.Put("x", []byte("cd")), d.Append("b.y", []byte(frame("laid"))))
	expectBlob(t, s, "y", "laid")
	expectOK(t, s.Put("y", []byte("laid")))
	expectCode(t, "Put", s.Put("y", []byte("other")), api.ErrTwice)
	expectList(t, s, "x", "y")
	expectOK(t, d.Rename("b.x", "b.z"), d.Rename("b.y", "y"))
	expectList(t, s, "z")
	expectBlob(t, s, "z", "cd")
	expectNone(t, s, "x", api.ErrNone)
	expectNone(t, s, "y", api.ErrNone)
	replace(t, d, "b.z", frame("ef"))
	expectBlob(t, s, "z", "ef")
}

// TestList: P13.3, the names of the blobs that are there, rising byte by byte, whatever stands in their files; drafts and files of others aren't told.
func TestList(t *testing.T) {
	d := disk.New()
	s := opened(t, d)
	expectList(t, s)
	for _, name := range []string{"x", "ab", "~", "a", "B", "abc", "!", "10", "9", "b.x", "t.x", "a!", "b."} {
		expectOK(t, s.Put(name, nil))
	}
	want := []string{"!", "10", "9", "B", "a", "a!", "ab", "abc", "b.", "b.x", "t.x", "x", "~"}
	expectList(t, s, want...)
	for _, file := range []string{"b.", "b", "bx", "B.x", "t", "t.", "t.y", "t.b.y", "ab.y", "bb.y", "!b.y"} {
		expectOK(t, d.Append(file, []byte(frame("ab"))))
	}
	expectList(t, s, want...)
	expectOK(t, d.Append("b.a", []byte("!")), d.Append("b.c", nil), s.Delete("~"))
	want = slices.Insert(want[:len(want)-1], 10, "c")
	ops := d.Ops()
	expectList(t, s, want...)
	d.Cut(99)
	if names := s.List(); names != nil {
		t.Errorf("List with the power off: %q", names)
	}
	expectOps(t, d, ops)
	d.On()
	expectList(t, s, want...)
}

// TestDelete: P13.3, the blob's file is removed by an operation, and no other one; ErrNone, if it isn't there.
func TestDelete(t *testing.T) {
	d := disk.New()
	s := opened(t, d)
	expectCode(t, "Delete", s.Delete("x"), api.ErrNone)
	expectOK(t, s.Put("x", []byte("ab")), s.Put("xy", []byte("cd")), d.Append("t.x", []byte("draft")), d.Append("x", nil))
	expectOK(t, s.Delete("x"))
	expectOps(t, d, 9)
	expectFiles(t, d, "b.xy", frame("cd"), "t.x", "draft", "x", "")
	expectNone(t, s, "x", api.ErrNone)
	expectList(t, s, "xy")
	for range 2 {
		expectCode(t, "Delete again", s.Delete("x"), api.ErrNone)
	}
	expectOps(t, d, 9)
	for _, b := range []string{"", "no frame", frame("ab") + "!"} {
		expectOK(t, d.Append("b.x", []byte(b)), s.Delete("x"))
		expectNone(t, s, "x", api.ErrNone)
	}
	d.Cut(0)
	d.On()
	expectList(t, s, "xy")
}

// TestDeleteCut: P13.3, with the power off, and going off at it: ErrPower, and the blob stays.
func TestDeleteCut(t *testing.T) {
	d := disk.New()
	s := opened(t, d)
	expectOK(t, s.Put("x", []byte("ab")))
	d.CutAt(3, 0)
	expectCode(t, "Delete y", s.Delete("y"), api.ErrNone)
	for range 2 {
		expectCode(t, "Delete x", s.Delete("x"), api.ErrPower)
		expectOps(t, d, 4)
	}
	d.On()
	s = opened(t, d)
	expectBlob(t, s, "x", "ab")
	expectOK(t, s.Delete("x"))
	expectList(t, s)
}

// TestPutBehindDelete: P13.2, a blob that was deleted may be put again, with other bytes.
func TestPutBehindDelete(t *testing.T) {
	d := disk.New()
	s := opened(t, d)
	for at, body := range []string{"ab", "cd", "", "ab", "ab"} {
		expectOK(t, s.Put("x", []byte(body)))
		expectBlob(t, s, "x", body)
		expectCode(t, "Put of others", s.Put("x", []byte("other")), api.ErrTwice)
		expectOK(t, s.Delete("x"))
		expectNone(t, s, "x", api.ErrNone)
		expectOps(t, d, 4*at+4)
	}
	expectFiles(t, d)
}

// TestTwoStores: P13.1 to P13.3, two stores on one disk: each sees what the other did; stores on two disks have nothing to do with each other.
func TestTwoStores(t *testing.T) {
	d := disk.New()
	first, second, far := opened(t, d), opened(t, d), opened(t, disk.New())
	expectOK(t, first.Put("x", []byte("ab")), second.Put("y", []byte("cd")), second.Put("x", []byte("ab")))
	expectCode(t, "Put of others", second.Put("x", []byte("c")), api.ErrTwice)
	for _, s := range []*Store{first, second, opened(t, d)} {
		expectList(t, s, "x", "y")
		expectBlob(t, s, "x", "ab")
		expectBlob(t, s, "y", "cd")
	}
	expectList(t, far)
	expectOK(t, second.Delete("x"))
	expectNone(t, first, "x", api.ErrNone)
	expectOK(t, first.Put("x", []byte("new")))
	expectBlob(t, second, "x", "new")
	d.CutAt(d.Ops()+1, 99)
	expectCode(t, "Put z", first.Put("z", []byte("ef")), api.ErrPower)
	expectCode(t, "Put z", second.Put("z", []byte("ef")), api.ErrPower)
	expectOK(t, far.Put("z", nil))
	d.On()
	expectOK(t, second.Put("z", []byte("gh")))
	expectBlob(t, first, "z", "gh")
	expectFiles(t, d, "b.x", frame("new"), "b.y", frame("cd"), "b.z", frame("gh"))
}

// TestNotKept: P13.3, what is handed in isn't kept, nor changed.
func TestNotKept(t *testing.T) {
	d := disk.New()
	s := opened(t, d)
	b := make([]byte, 3, 64)
	copy(b, "abc")
	expectOK(t, s.Put("x", b), s.Put("y", b[:2]))
	if string(b[:4]) != "abc\x00" {
		t.Fatalf("what was handed in was changed: %q", b[:4])
	}
	b[0], b[1], b[2] = '!', '!', '!'
	expectBlob(t, s, "x", "abc")
	expectBlob(t, s, "y", "ab")
	expectCode(t, "Put of what it was changed to", s.Put("x", b), api.ErrTwice)
	expectOK(t, s.Put("x", []byte("abc")))
}

// TestNewMemory: P13.3, whoever changes what is answered, or puts something behind it, changes nothing else.
func TestNewMemory(t *testing.T) {
	d := disk.New()
	s := opened(t, d)
	expectOK(t, s.Put("x", []byte("abc")), s.Put("y", []byte("de")))
	held, _ := s.Get("x")
	for range 2 {
		first, _ := s.Get("x")
		second, _ := s.Get("x")
		clear(first)
		_ = append(first, "zz"...)
		if string(second) != "abc" || string(held) != "abc" {
			t.Fatalf("another answer was changed: %q, %q", second, held)
		}
		expectBlob(t, s, "x", "abc")
		names, others := s.List(), s.List()
		names[0], names[1] = "changed", "changed"
		_ = append(names, "more")
		if !slices.Equal(others, []string{"x", "y"}) {
			t.Fatalf("another answer was changed: %q", others)
		}
		expectList(t, s, "x", "y")
		expectFiles(t, d, "b.x", frame("abc"), "b.y", frame("de"))
	}
	expectOK(t, s.Delete("x"), s.Put("x", []byte("new")), d.Append("b.x", []byte("!")))
	if string(held) != "abc" {
		t.Fatalf("what was answered was changed: %q", held)
	}
}
