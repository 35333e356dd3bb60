package query

import (
	"errors"
	"fmt"
	"testing"

	"gristmill/api"
)

// told is a *Wrong as Check tells it.
func told(t *testing.T) *Wrong {
	t.Helper()
	q := may()
	q.Sets[2] = []int{5}
	w, ok := Check(schema, q).(*Wrong)
	if !ok || w == nil {
		t.Fatal("no *Wrong")
	}
	return w
}

// wrappings are an error that others wrap, once and deeper, by fmt.Errorf and by errors.Join.
func wrappings(err error) map[string]error {
	other := errors.New("other")
	once := fmt.Errorf("once: %w", err)
	return map[string]error{
		"itself":           err,
		"once":             once,
		"deeper":           fmt.Errorf("deeper: %w", fmt.Errorf("deep: %w", once)),
		"two":              fmt.Errorf("%w and %w", other, err),
		"joined alone":     errors.Join(err),
		"joined first":     errors.Join(err, other),
		"joined last":      errors.Join(other, nil, other, err),
		"joined deeper":    errors.Join(other, fmt.Errorf("in: %w", errors.Join(other, once))),
		"wrapped and join": fmt.Errorf("out: %w", errors.Join(other, err)),
	}
}

// TestWrapped: P8.2, errors.Is finds ErrQuery, errors.As the *Wrong itself, however it is wrapped; Code its number.
func TestWrapped(t *testing.T) {
	w := told(t)
	for name, err := range wrappings(w) {
		if !errors.Is(err, api.ErrQuery) || errors.Is(err, api.ErrArg) || errors.Is(err, api.OK) {
			t.Error(name, "errors.Is")
		}
		var found *Wrong
		if !errors.As(err, &found) || found != w || found.Field != "sets" || found.At != 2 {
			t.Error(name, "errors.As", found)
		}
		if Code(err) != api.ErrQuery {
			t.Error(name, Code(err))
		}
	}
}

// TestWrongMade: P8.2, each *Wrong, also those that Check never tells.
func TestWrongMade(t *testing.T) {
	for _, w := range []*Wrong{told(t), {}, {Field: "rows"}, {Field: "sets", At: 63}, {At: -1}, {Field: "no field", At: least}, {Field: "\xff\x00", At: great}} {
		if w.Error() == "" || w.Error() != w.Error() {
			t.Errorf("%+v: no text", w)
		}
		if w.Unwrap() != error(api.ErrQuery) || errors.Unwrap(w) != error(api.ErrQuery) || !errors.Is(w, api.ErrQuery) || Code(w) != api.ErrQuery {
			t.Errorf("%+v: %v", w, w.Unwrap())
		}
	}
}

// TestWrongNil: P8.2, a nil *Wrong answers as one.
func TestWrongNil(t *testing.T) {
	var none *Wrong
	if none.Error() == "" {
		t.Error("no text")
	}
	if none.Unwrap() != error(api.ErrQuery) {
		t.Error(none.Unwrap())
	}
	for name, err := range wrappings(none) {
		var found *Wrong
		if !errors.Is(err, api.ErrQuery) || !errors.As(err, &found) || found != nil || Code(err) != api.ErrQuery {
			t.Error(name, Code(err))
		}
	}
}

// stranger is an error that holds any other, and can't be compared.
type stranger struct {
	in   error
	list []int
}

func (s stranger) Error() string { return "stranger" }

func (s stranger) Unwrap() error { return s.in }

// teller tells its number by a method As.
type teller struct{ says bool }

func (teller) Error() string { return "teller" }

func (t teller) As(target any) bool {
	if n, ok := target.(*api.Errno); ok {
		*n = api.ErrGap
	}
	return t.says
}

// bomb's methods, which errors.As calls, panic.
type bomb struct{ what any }

func (bomb) Error() string { panic("Error") }

func (b bomb) Unwrap() error { panic(b.what) }

type asBomb struct{}

func (asBomb) Error() string { return "asBomb" }

func (asBomb) As(any) bool { panic("As") }

// TestCode: P8.2, OK of nil, the first Errno that is found, else ErrArg.
func TestCode(t *testing.T) {
	pointer, other := api.ErrGap, errors.New("other")
	cases := []struct {
		name string
		err  error
		want api.Errno
	}{
		{"nil", nil, api.OK},
		{"OK", api.OK, api.OK},
		{"OK wrapped", fmt.Errorf("%w", api.OK), api.OK},
		{"OK ahead", errors.Join(api.OK, api.ErrGap), api.OK},
		{"OK behind", errors.Join(api.ErrGap, api.OK), api.ErrGap},
		{"none of the list", api.Errno(-7), -7},
		{"without a number", other, api.ErrArg},
		{"without a number, wrapped", fmt.Errorf("in: %w", other), api.ErrArg},
		{"without a number, only told", fmt.Errorf("in: %v", api.ErrGap), api.ErrArg},
		{"without a number, joined", errors.Join(other, other), api.ErrArg},
		{"joined first", errors.Join(api.ErrGap, api.ErrTime), api.ErrGap},
		{"joined last", errors.Join(other, api.ErrTime, api.ErrGap), api.ErrTime},
		{"depth first", errors.Join(other, fmt.Errorf("%w", errors.Join(other, api.ErrGap)), api.ErrTime), api.ErrGap},
		{"two", fmt.Errorf("%w, %w", api.ErrTime, api.ErrGap), api.ErrTime},
		{"a Wrong ahead", errors.Join(&Wrong{}, api.ErrGap), api.ErrQuery},
		{"a Wrong behind", errors.Join(other, api.ErrGap, &Wrong{}), api.ErrGap},
		{"a pointer", &pointer, api.ErrArg},
		{"a nil pointer", (*api.Errno)(nil), api.ErrArg},
		{"not compared", stranger{in: api.ErrGap}, api.ErrGap},
		{"not compared, empty", stranger{}, api.ErrArg},
		{"told by As", teller{says: true}, api.ErrGap},
		{"refused by As", teller{}, api.ErrArg},
	}
	for _, c := range cases {
		if got := Code(c.err); got != c.want {
			t.Errorf("%s: %d, not %d", c.name, got, c.want)
		}
	}
	for _, n := range []api.Errno{1, 10, 11, 12, 40, 80, 90, 120, 121, 122, 140, 141, 142, 170, 171, 190, 191, 220, 221, 230, 240} {
		for name, err := range wrappings(n) {
			if Code(err) != n {
				t.Errorf("%s of %d: %d", name, n, Code(err))
			}
		}
	}
}

// TestCodePanic: rule 1, P8.2, errors whose methods panic: none gets out.
func TestCodePanic(t *testing.T) {
	for _, err := range []error{bomb{what: "text"}, bomb{what: nil}, bomb{what: api.ErrGap}, asBomb{}, (*stranger)(nil), errors.Join(errors.New("other"), bomb{}), fmt.Errorf("%w", asBomb{})} {
		if got := Code(err); got != api.ErrArg {
			t.Errorf("%T: %d", err, got)
		}
	}
	// What is found ahead of it is told.
	if got := Code(errors.Join(api.ErrGap, bomb{})); got != api.ErrGap {
		t.Error(got)
	}
}

// TestCodeDeep: P8.2, a number that is wrapped as deep as anything may be nested.
func TestCodeDeep(t *testing.T) {
	var line, tree error = api.ErrGap, api.ErrGap
	for range 1<<16 - 1 {
		line = stranger{in: line}
		tree = errors.Join(tree)
	}
	if Code(line) != api.ErrGap || Code(tree) != api.ErrGap {
		t.Error(Code(line), Code(tree))
	}
}
