package away

import (
	"bytes"
	"strings"
	"testing"

	"gristmill/api"
)

// others are a book and a deep storage that answer just this, and note what they are asked; or panic.
type others struct {
	state  api.State
	bytes  []byte
	code   api.Errno
	panics bool
	txns   []api.Txn
	names  []string
	puts   [][]byte
	nodes  []int
	there  []string
}

func (o *others) answer() api.Errno {
	if o.panics {
		panic("away")
	}
	return o.code
}

func (o *others) State() (api.State, api.Errno) { return o.state, o.answer() }

func (o *others) Do(t api.Txn) (api.State, api.Errno) {
	o.txns = append(o.txns, t)
	return o.state, o.answer()
}

func (o *others) Elect(node int) (api.State, api.Errno) {
	o.nodes = append(o.nodes, node)
	return o.state, o.answer()
}

func (o *others) Put(name string, b []byte) api.Errno {
	o.names, o.puts = append(o.names, name), append(o.puts, b)
	return o.answer()
}

func (o *others) Get(name string) ([]byte, api.Errno) {
	o.names = append(o.names, name)
	return o.bytes, o.answer()
}

func (o *others) Delete(name string) api.Errno {
	o.names = append(o.names, name)
	return o.answer()
}

func (o *others) List() ([]string, api.Errno) { return o.there, o.answer() }

// expectCalls does each call once; all of them answer this code.
func expectCalls(t *testing.T, b api.Book, d api.Deep, want api.Errno, epoch int, blob string) {
	t.Helper()
	if s, code := State(b); code != want || s.Epoch != epoch {
		t.Errorf("State: %+v, %d", s, code)
	}
	if code := Do(b, api.Txn{Epoch: 3}); code != want {
		t.Errorf("Do: %d", code)
	}
	if code := Put(d, "x", []byte("ab")); code != want {
		t.Errorf("Put: %d", code)
	}
	if got, code := Get(d, "y"); code != want || string(got) != blob {
		t.Errorf("Get: %q, %d", got, code)
	}
	if s, code := Elect(b, 41); code != want || s.Epoch != epoch {
		t.Errorf("Elect: %+v, %d", s, code)
	}
	if code := Delete(d, "z"); code != want {
		t.Errorf("Delete: %d", code)
	}
	l, code := List(d)
	if told := want == api.OK && len(l) == 2 && l[0] == "p" && l[1] == "q"; code != want || told != (want == api.OK) || !told && l != nil {
		t.Errorf("List: %q, %d", l, code)
	}
}

// TestAnswers: what they answer is told, nothing beside an error; whoever panics or isn't there is away.
func TestAnswers(t *testing.T) {
	o := &others{state: api.State{Epoch: 7}, bytes: []byte("cd"), there: []string{"p", "q"}}
	expectCalls(t, o, o, api.OK, 7, "cd")
	asked := strings.Join(o.names, " ") == "x y z" && len(o.puts) == 1 && string(o.puts[0]) == "ab"
	if !asked || len(o.txns) != 1 || o.txns[0].Epoch != 3 || len(o.nodes) != 1 || o.nodes[0] != 41 {
		t.Errorf("asked %+v", o)
	}
	for _, code := range []api.Errno{api.ErrPower, api.ErrNone, api.ErrSum, api.ErrEpoch} {
		o.code = code
		expectCalls(t, o, o, code, 0, "")
	}
	o.code, o.panics = api.OK, true
	expectCalls(t, o, o, api.ErrPower, 0, "")
	expectCalls(t, nil, nil, api.ErrPower, 0, "")
	var none *others
	expectCalls(t, none, none, api.ErrPower, 0, "")
}

// TestPutOwn: what is put stays as it was, whatever deep storage does to what it was handed.
func TestPutOwn(t *testing.T) {
	o, b := &others{}, []byte("ab")
	Put(o, "x", b)
	clear(o.puts[0])
	if !bytes.Equal(b, []byte("ab")) {
		t.Errorf("%q", b)
	}
}
