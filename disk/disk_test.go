package disk

import (
	"strings"
	"testing"

	"gristmill/api"
)

// TestExample: the document's table.
func TestExample(t *testing.T) {
	d := New()
	expectOK(t, d.Append("a", []byte("xy")), d.Sync("a"), d.Append("a", []byte("z")))
	expectFile(t, d, "a", "xyz")
	expectOps(t, d, 3)
	d.Cut(0)
	if !d.Off() {
		t.Fatalf("the power is on")
	}
	expectNone(t, d, "a", api.ErrPower)
	d.On()
	expectFile(t, d, "a", "xy")
	d.CutAt(3, 1)
	expectCode(t, "Append b", d.Append("b", []byte("pq")), api.ErrPower)
	expectCode(t, "Append b again", d.Append("b", []byte("r")), api.ErrPower)
	d.On()
	expectFile(t, d, "b", "p")
	expectList(t, d, "", "a", "b")
	expectOps(t, d, 4)
	expectOK(t, d.Rename("a", "b"))
	expectFile(t, d, "b", "xy")
	expectNone(t, d, "a", api.ErrNone)
	expectCode(t, "Sync a", d.Sync("a"), api.ErrNone)
	expectCode(t, "Append of an empty name", d.Append("", []byte("x")), api.ErrArg)
}

// TestNew: P12.3 and P12.4, a new disk has no files and no operations, its power is on, and no cut was planned.
func TestNew(t *testing.T) {
	d := New()
	expectList(t, d, "")
	expectOps(t, d, 0)
	if d.Off() {
		t.Fatalf("the power is off")
	}
	expectOK(t, d.Append("a", nil))
	other := New()
	expectList(t, other, "")
	expectOps(t, other, 0)
}

// TestAppend: P12.2, bytes come behind the file's, which is made, if there was none; also of no bytes.
func TestAppend(t *testing.T) {
	d := New()
	for at, c := range []struct{ name, b, want string }{
		{"a", "xy", "xy"},
		{"a", "z", "xyz"},
		{"a", "", "xyz"},
		{"b", "", ""},
		{"b", "", ""},
		{"b", "\x00\xff", "\x00\xff"},
		{"a", "\x00", "xyz\x00"},
		{"A", "q", "q"},
		{"b", "\x00\xff", "\x00\xff\x00\xff"},
	} {
		expectOK(t, d.Append(c.name, []byte(c.b)))
		expectFile(t, d, c.name, c.want)
		expectOps(t, d, at+1)
	}
	expectOK(t, d.Append("c", nil), d.Append("a", nil))
	expectFile(t, d, "c", "")
	expectFile(t, d, "a", "xyz\x00")
	expectList(t, d, "", "A", "a", "b", "c")
	great := strings.Repeat("0123456789", 200000)
	expectOK(t, d.Append("great", []byte(great)), d.Append("great", []byte(great)))
	expectFile(t, d, "great", great+great)
}

// TestAppendOfNothing: P12.2, an Append of no bytes leaves what is synced as it was.
func TestAppendOfNothing(t *testing.T) {
	d := New()
	expectOK(t, d.Append("a", []byte("xy")), d.Sync("a"), d.Append("a", nil), d.Append("b", []byte("z")), d.Append("b", nil), d.Append("c", nil))
	d.Cut(0)
	d.On()
	expectFile(t, d, "a", "xy")
	expectFile(t, d, "b", "")
	expectFile(t, d, "c", "")
	expectList(t, d, "", "a", "b", "c")
	expectOps(t, d, 6)
}

// TestSync: P12.2, all bytes of that file are synced, and of no other one; also twice, and of an empty file.
func TestSync(t *testing.T) {
	d := New()
	expectOK(t, d.Append("a", []byte("xy")), d.Append("b", []byte("pq")), d.Append("c", nil))
	expectOK(t, d.Sync("a"), d.Sync("a"), d.Sync("c"), d.Append("a", []byte("z")), d.Append("c", []byte("r")))
	expectOps(t, d, 8)
	expectFile(t, d, "a", "xyz")
	d.Cut(0)
	d.On()
	expectFile(t, d, "a", "xy")
	expectFile(t, d, "b", "")
	expectFile(t, d, "c", "")
	expectOK(t, d.Append("a", []byte("12")), d.Sync("a"), d.Append("a", []byte("3")), d.Sync("a"), d.Append("a", []byte("4")))
	d.Cut(0)
	d.On()
	expectFile(t, d, "a", "xy123")
}

// TestRename: P12.2, onto a free name, onto a file that is there, onto itself: bytes, and how many of them are synced, go along.
func TestRename(t *testing.T) {
	for _, c := range []struct {
		from, to string
		names    []string
		behind   string // what the file has behind a cut
	}{
		{"a", "c", []string{"b", "c"}, "x"},
		{"b", "c", []string{"a", "c"}, ""},
		{"a", "b", []string{"b"}, "x"},
		{"b", "a", []string{"a"}, ""},
		{"a", "a", []string{"a", "b"}, "x"},
		{"b", "b", []string{"a", "b"}, ""},
		{"b", strings.Repeat("n", 64), []string{"a", strings.Repeat("n", 64)}, ""},
	} {
		d := sample(t)
		before, _ := d.Read(c.from)
		expectOK(t, d.Rename(c.from, c.to))
		expectFile(t, d, c.to, string(before))
		expectList(t, d, "", c.names...)
		expectOps(t, d, sampleOps+1)
		d.Cut(0)
		d.On()
		expectFile(t, d, c.to, c.behind)
		expectList(t, d, "", c.names...)
	}
}

// TestRenameGoesApart: P12.2, behind a Rename the old name is free for a file of its own.
func TestRenameGoesApart(t *testing.T) {
	d := sample(t)
	expectOK(t, d.Rename("a", "b"), d.Append("a", []byte("new")), d.Append("b", []byte("z")))
	expectFile(t, d, "a", "new")
	expectFile(t, d, "b", "xyz")
	expectOK(t, d.Rename("b", "a"), d.Sync("a"), d.Rename("a", "c"))
	expectNone(t, d, "a", api.ErrNone)
	expectNone(t, d, "b", api.ErrNone)
	d.Cut(0)
	d.On()
	expectFile(t, d, "c", "xyz")
	expectOps(t, d, sampleOps+6)
}

// TestRemove: P12.2, the file is gone; one that is made with its name has nothing of it.
func TestRemove(t *testing.T) {
	d := sample(t)
	expectOK(t, d.Sync("b"), d.Remove("b"))
	expectNone(t, d, "b", api.ErrNone)
	expectList(t, d, "", "a")
	expectFile(t, d, "a", "xy")
	expectCode(t, "Remove again", d.Remove("b"), api.ErrNone)
	expectOps(t, d, sampleOps+2)
	expectOK(t, d.Append("b", []byte("new!")))
	expectFile(t, d, "b", "new!")
	d.Cut(1)
	d.On()
	expectFile(t, d, "b", "n")
	expectOK(t, d.Remove("a"), d.Remove("b"))
	expectList(t, d, "")
}

// TestRead: P12.3, a file's bytes, also of an empty one; it is no operation.
func TestRead(t *testing.T) {
	d := sample(t)
	expectOK(t, d.Append("empty", nil))
	for range 3 {
		expectFile(t, d, "a", "xy")
		expectFile(t, d, "b", "pqr")
		expectFile(t, d, "empty", "")
	}
	expectOps(t, d, sampleOps+1)
}

// TestList: P12.3, names that begin so, rising byte by byte.
func TestList(t *testing.T) {
	d := New()
	for _, name := range []string{"b.x", "ab", "~", "a", "B", "abc", "b.", "!", "b.10", "b.9", "b", "a!"} {
		expectOK(t, d.Append(name, nil))
	}
	expectList(t, d, "", "!", "B", "a", "a!", "ab", "abc", "b", "b.", "b.10", "b.9", "b.x", "~")
	expectList(t, d, "b", "b", "b.", "b.10", "b.9", "b.x")
	expectList(t, d, "b.", "b.", "b.10", "b.9", "b.x")
	expectList(t, d, "b.x", "b.x")
	expectList(t, d, "ab", "ab", "abc")
	expectList(t, d, "abc", "abc")
	for _, none := range []string{"abcd", "c", "x", ".x", "A", " ", "\x00", "\xff", strings.Repeat("a", 65), "b. "} {
		expectList(t, d, none)
	}
	expectOps(t, d, 12)
	d.Cut(0)
	for _, prefix := range []string{"", "b", "b.x", "none"} {
		expectList(t, d, prefix)
	}
	d.On()
	expectList(t, d, "b.", "b.", "b.10", "b.9", "b.x")
}

// TestOps: P12.3, each operation that isn't refused is counted, and nothing else.
func TestOps(t *testing.T) {
	d := New()
	for at, code := range []api.Errno{
		d.Append("a", nil), d.Append("a", []byte("x")), d.Sync("a"), d.Sync("a"), d.Rename("a", "a"), d.Rename("a", "b"), d.Append("a", nil), d.Rename("a", "b"), d.Remove("b"),
	} {
		expectCode(t, "call "+string(rune('0'+at)), code, api.OK)
	}
	expectOps(t, d, 9)
	d.Read("a")
	d.List("")
	d.Off()
	d.On()
	d.CutAt(99, 1)
	d.Cut(1)
	d.On()
	d.Ops()
	expectOps(t, d, 9)
}

// TestNotKept: P12.3, what is handed in isn't kept, nor changed.
func TestNotKept(t *testing.T) {
	d := New()
	b := make([]byte, 3, 64)
	copy(b, "xyz")
	expectOK(t, d.Append("a", b), d.Append("b", b))
	b[0] = '!'
	expectFile(t, d, "a", "xyz")
	expectFile(t, d, "b", "xyz")
	expectOK(t, d.Append("a", b[:1]), d.Append("b", []byte("?")))
	if string(b[:4]) != "!yz\x00" {
		t.Errorf("what was handed in was changed: %q", b[:4])
	}
	expectFile(t, d, "a", "xyz!")
	expectFile(t, d, "b", "xyz?")
	d.CutAt(4, 2)
	expectCode(t, "Append c", d.Append("c", b), api.ErrPower)
	b[1] = '-'
	d.On()
	expectFile(t, d, "c", "!y")
}

// TestNewMemory: P12.3, whoever changes what is answered, or puts something behind it, changes nothing else.
func TestNewMemory(t *testing.T) {
	d := sample(t)
	for range 2 {
		first, _ := d.Read("a")
		second, _ := d.Read("a")
		clear(first)
		_ = append(first, "zz"...)
		if string(second) != "xy" {
			t.Fatalf("another answer was changed: %q", second)
		}
		expectFile(t, d, "a", "xy")
		names := d.List("")
		others := d.List("")
		names[0], names[1] = "changed", "changed"
		_ = append(names, "more")
		if others[0] != "a" || others[1] != "b" {
			t.Fatalf("another answer was changed: %q", others)
		}
		expectList(t, d, "", "a", "b")
	}
	held, _ := d.Read("b")
	expectOK(t, d.Append("b", []byte("s")), d.Sync("a"))
	d.Cut(0)
	d.On()
	expectOK(t, d.Append("b", []byte("123456")))
	if string(held) != "pqr" {
		t.Errorf("what was answered was changed: %q", held)
	}
}
