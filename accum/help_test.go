package accum_test

import (
	"bytes"
	"math"
	"reflect"
	"strconv"
	"strings"
	"testing"

	"aqueduct/accum"
	"aqueduct/api"
	"aqueduct/bson"
)

// The values, short.
var (
	missing  = api.Value{}
	least    = api.Value{Kind: api.Least}
	null     = api.Value{Kind: api.Null}
	greatest = api.Value{Kind: api.Greatest}
	yes      = boolean(1)
	no       = boolean(0)
)

func i32(n int64) api.Value         { return api.Value{Kind: api.Int32, N: n} }
func i64(n int64) api.Value         { return api.Value{Kind: api.Int64, N: n} }
func text(s string) api.Value       { return api.Value{Kind: api.Text, S: s} }
func raw(s string) api.Value        { return api.Value{Kind: api.Bytes, B: []byte(s)} }
func id(s string) api.Value         { return api.Value{Kind: api.Id, B: []byte(s)} }
func boolean(n int64) api.Value     { return api.Value{Kind: api.Bool, N: n} }
func date(n int64) api.Value        { return api.Value{Kind: api.Date, N: n} }
func list(l ...api.Value) api.Value { return api.Value{Kind: api.List, L: l} }
func none(kind int) api.Value       { return api.Value{Kind: kind} }

// is is a Doc of one field.
func is(name string, v api.Value) api.Value { return doc(api.Field{Name: name, V: v}) }

func doc(l ...api.Field) api.Value { return api.Value{Kind: api.Doc, F: l} }

// row is a row of values.
func row(l ...api.Value) []api.Value { return l }

// filler is a Text that has n bytes in a document beside its kind and name: at least 5.
func filler(n int) api.Value { return text(strings.Repeat("x", n-5)) }

// deep lies so many Lists deep, v being within the innermost.
func deep(v api.Value, depth int) api.Value {
	for range depth {
		v = list(v)
	}
	return v
}

// plain has a value of each kind, and of some kinds several, Missing and Null left out: each may be.
func plain() []api.Value {
	return row(least, i32(0), i32(-7), i32(math.MaxInt32), i64(0), i64(-7), i64(1<<40), text(""), text("a"), text("b"), doc(), is("a", i32(1)), is("a", i64(1)), is("", null),
		list(), list(null), list(i32(1), text("x")), raw(""), raw("ab"), id("abcdefghijkl"), no, yes, date(0), date(-5), greatest)
}

// strangers are values that may not be in a document, and no Missing.
func strangers() []api.Value {
	l := row(api.Value{Kind: api.Null, N: 7}, api.Value{Kind: api.Text, S: "a", N: 1}, i32(1<<40), id("short"), boolean(2), text("\xff"), is("\xff", null), is("a\x00", null),
		doc(api.Field{Name: "a", V: null}, api.Field{Name: "a", V: null}), is("a", missing), list(missing), list(none(13)), deep(null, api.MaxDepth), text(strings.Repeat("x", api.MaxBytes)))
	for _, kind := range kinds() {
		l = append(l, none(kind))
	}
	return l
}

// kinds are those that no value has.
func kinds() []int {
	return []int{-1, 13, 14, 256, math.MinInt, math.MaxInt, 1 << 32, 1<<32 + api.Int32, -api.Text}
}

// all are the kinds of states, with their names.
func all() map[string]int {
	return map[string]int{"$sum": accum.Sum, "$min": accum.Least, "$max": accum.Greatest, "$first": accum.First, "$last": accum.Last, "$push": accum.Push, "$addToSet": accum.Set, "$count": accum.Count}
}

// show is a value as a short text: its kind, and what it has.
func show(v api.Value) string {
	var b strings.Builder
	write(&b, v)
	return b.String()[:min(b.Len(), 400)]
}

func write(b *strings.Builder, v api.Value) {
	if b.Len() > 400 {
		return
	}
	names := []string{"-", "least", "null", "i32", "i64", "text", "doc", "list", "bytes", "id", "bool", "date", "greatest"}
	if v.Kind >= 0 && v.Kind < len(names) {
		b.WriteString(names[v.Kind])
	} else {
		b.WriteString("kind" + strconv.Itoa(v.Kind))
	}
	if v.N != 0 {
		b.WriteString(" " + strconv.FormatInt(v.N, 10))
	}
	if v.S != "" || len(v.B) > 0 {
		b.WriteString(" " + strconv.QuoteToASCII(v.S[:min(len(v.S), 50)]) + strconv.QuoteToASCII(string(v.B)))
	}
	for _, f := range v.F {
		b.WriteString(" {" + strconv.QuoteToASCII(f.Name) + ": ")
		write(b, f.V)
		b.WriteString("}")
	}
	for _, x := range v.L {
		b.WriteString(" [")
		write(b, x)
		b.WriteString("]")
	}
}

// made is a new State of a kind that there is.
func made(t *testing.T, kind int) *accum.State {
	t.Helper()
	s := accum.New(kind)
	if s == nil {
		t.Fatalf("New of kind %d: nil", kind)
	}
	return s
}

// wantState has Value and Size answer that, twice.
func wantState(t *testing.T, s *accum.State, what string, want api.Value, size int) {
	t.Helper()
	for range 2 {
		if got := s.Value(); !bson.Same(got, want) {
			t.Errorf("%s: Value is %s, want %s", what, show(got), show(want))
		}
		if got := s.Size(); got != size {
			t.Errorf("%s: Size is %d, want %d", what, got, size)
		}
	}
}

// wantAdd has Add tell that error, and leave its argument as it was.
func wantAdd(t *testing.T, s *accum.State, what string, v api.Value, want api.Errno) {
	t.Helper()
	same := bson.Copy(v)
	if e := s.Add(v); e != want {
		t.Errorf("%s: Add of %s: %v, want %v", what, show(v), e, want)
	}
	if !bson.Same(v, same) {
		t.Errorf("%s: Add of %s has changed it", what, show(same))
	}
}

// step is a value that is added, what Add tells, and Value and Size behind it.
type step struct {
	v    api.Value
	e    api.Errno
	want api.Value
	size int
}

// wantSteps has a new State be as the first want and size say before anything came, and then as each step says.
func wantSteps(t *testing.T, kind int, want api.Value, size int, l ...step) {
	t.Helper()
	s := made(t, kind)
	what := "kind " + strconv.Itoa(kind)
	wantState(t, s, what+" of none", want, size)
	for i, x := range l {
		here := what + ", step " + strconv.Itoa(i) + ", " + show(x.v)
		wantAdd(t, s, here, x.v, x.e)
		wantState(t, s, here, x.want, x.size)
	}
}

// after is a State to which those came, whatever Add told.
func after(t *testing.T, kind int, l ...api.Value) *accum.State {
	t.Helper()
	s := made(t, kind)
	for _, v := range l {
		s.Add(v)
	}
	return s
}

// wantValue has those values make that, with Add telling nothing.
func wantValue(t *testing.T, kind int, want api.Value, l ...api.Value) {
	t.Helper()
	s := made(t, kind)
	for _, v := range l {
		wantAdd(t, s, "kind "+strconv.Itoa(kind), v, api.OK)
	}
	wantState(t, s, "kind "+strconv.Itoa(kind)+" of "+show(list(l...)), want, sizeOf(kind, want))
}

// sizeOf is P12.2, reckoned by the bytes of a document.
func sizeOf(kind int, kept api.Value) int {
	if kind == accum.Count {
		return 16
	}
	b, e := bson.Encode(is("", kept))
	if e != api.OK {
		return 16
	}
	return 16 + len(b) - 7
}

// spoil changes all that hangs on a value, spare room too.
func spoil(v api.Value) {
	for _, f := range v.F {
		spoil(f.V)
	}
	for _, x := range v.L {
		spoil(x)
	}
	copy(v.B[:cap(v.B)], bytes.Repeat([]byte{0x55}, cap(v.B)))
	for i := range v.F[:cap(v.F)] {
		v.F[:cap(v.F)][i] = api.Field{Name: "spoilt", V: i32(77)}
	}
	for i := range v.L[:cap(v.L)] {
		v.L[:cap(v.L)][i] = i32(77)
	}
}

// zero tells whether a value has nothing at all.
func zero(v api.Value) bool { return reflect.DeepEqual(v, api.Value{}) }

// endIfFailed keeps a test of very many from telling very many faults.
func endIfFailed(t *testing.T) {
	t.Helper()
	if t.Failed() {
		t.FailNow()
	}
}
