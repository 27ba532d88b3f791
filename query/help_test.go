package query_test

import (
	"bytes"
	"math"
	"reflect"
	"slices"
	"strconv"
	"strings"
	"testing"

	"aqueduct/api"
	"aqueduct/bson"
	"aqueduct/query"
)

// The values, short.
var (
	missing  = api.Value{}
	least    = api.Value{Kind: api.Least}
	null     = api.Value{Kind: api.Null}
	greatest = api.Value{Kind: api.Greatest}
	yes      = boolean(1)
	no       = boolean(0)
)

func i32(n int64) api.Value         { return api.Value{Kind: api.Int32, N: n} }
func i64(n int64) api.Value         { return api.Value{Kind: api.Int64, N: n} }
func text(s string) api.Value       { return api.Value{Kind: api.Text, S: s} }
func raw(s string) api.Value        { return api.Value{Kind: api.Bytes, B: []byte(s)} }
func id(s string) api.Value         { return api.Value{Kind: api.Id, B: []byte(s)} }
func boolean(n int64) api.Value     { return api.Value{Kind: api.Bool, N: n} }
func date(n int64) api.Value        { return api.Value{Kind: api.Date, N: n} }
func list(l ...api.Value) api.Value { return api.Value{Kind: api.List, L: l} }
func none(kind int) api.Value       { return api.Value{Kind: kind} }

// is is a Doc of one field: an operator with what it has, too.
func is(name string, v api.Value) api.Value { return doc(api.Field{Name: name, V: v}) }

func doc(l ...api.Field) api.Value { return api.Value{Kind: api.Doc, F: l} }

// docs joins the fields of several documents.
func docs(l ...api.Value) api.Value {
	all := doc()
	for _, v := range l {
		all.F = append(all.F, v.F...)
	}
	return all
}

// op is an operator with a List.
func op(name string, l ...api.Value) api.Value { return is(name, list(l...)) }

// row is a row of values.
func row(l ...api.Value) []api.Value { return l }

// numbers are Int32s.
func numbers(l ...int64) []api.Value {
	var all []api.Value
	for _, n := range l {
		all = append(all, i32(n))
	}
	return all
}

// repeat is a row of one value, n times.
func repeat(v api.Value, n int) []api.Value {
	var l []api.Value
	for range n {
		l = append(l, v)
	}
	return l
}

// plain are values that are no Missing, no Doc and no List, with some that may not be.
func plain() []api.Value {
	return row(least, null, i32(0), i32(-7), i64(0), i64(1<<40), text(""), text("a"), text("$a"), text("string"), text("\xff"),
		raw(""), raw("$a"), id("abcdefghijkl"), id(""), no, yes, boolean(2), date(0), date(-5), greatest, i32(1<<40))
}

// nested are Docs and Lists that are no conditions.
func nested() []api.Value {
	return row(doc(), is("a", null), is("", i32(1)), docs(is("a", i32(1)), is("$eq", i32(1))), is("a$", i32(1)), is("a", is("$eq", i32(1))),
		list(), list(null), list(is("$eq", i32(1))), list(list(), missing), list(text("$a"), none(13)), list(i32(1), is("b", i32(2))))
}

// kinds are those that are none.
func kinds() []int {
	return []int{-1, 13, 14, 256, math.MinInt, math.MaxInt, 1 << 32, 1<<32 + api.Int32, -api.Text}
}

// nothing is what is no value: Missing, and kinds that are none.
func nothing() []api.Value {
	l := row(missing)
	for _, kind := range kinds() {
		l = append(l, none(kind))
	}
	return l
}

// some is a value of each kind, with some that nest.
func some() []api.Value { return slices.Concat(plain(), nested()) }

// every is some, and what is no value.
func every() []api.Value { return slices.Concat(some(), nothing()) }

// beside gives v all that its kind does not have.
func beside(v api.Value) api.Value {
	more := api.Value{Kind: v.Kind, N: 6, S: "b", B: []byte{9}, F: is("a", text("a")).F, L: row(i32(5))}
	switch v.Kind {
	case api.Int32, api.Int64, api.Bool, api.Date:
		more.N = v.N
	case api.Text:
		more.S = v.S
	case api.Bytes, api.Id:
		more.B = v.B
	case api.Doc:
		more.F = v.F
	case api.List:
		more.L = v.L
	}
	return more
}

// deep lies so many Lists (or Docs) deep, v being within the innermost.
func deep(v api.Value, depth int, wrap func(api.Value) api.Value) api.Value {
	for range depth {
		v = wrap(v)
	}
	return v
}

func inList(v api.Value) api.Value { return list(v) }
func inDoc(v api.Value) api.Value  { return is("a", v) }

// Queries whose answers are known of whatever document.

func holds() api.Value { return doc() }
func fails() api.Value { return op("$nor", doc()) }

// fault is one whose Test is an error that no query beside it tells: ErrZero.
func fault() api.Value { return is("$expr", op("$divide", i32(1), i32(0))) }

// far is one whose Test is ErrRange.
func far() api.Value { return is("$expr", is("$abs", i64(math.MinInt64))) }

// show is a value as a short text: its kind, and what it has.
func show(v api.Value) string {
	var b strings.Builder
	write(&b, v)
	return b.String()[:min(b.Len(), 400)]
}

func write(b *strings.Builder, v api.Value) {
	if b.Len() > 400 {
		return
	}
	names := []string{"-", "least", "null", "i32", "i64", "text", "doc", "list", "bytes", "id", "bool", "date", "greatest"}
	if v.Kind >= 0 && v.Kind < len(names) {
		b.WriteString(names[v.Kind])
	} else {
		b.WriteString("kind" + strconv.Itoa(v.Kind))
	}
	if v.N != 0 {
		b.WriteString(" " + strconv.FormatInt(v.N, 10))
	}
	if v.S != "" || len(v.B) > 0 {
		b.WriteString(" " + strconv.QuoteToASCII(v.S[:min(len(v.S), 50)]) + strconv.QuoteToASCII(string(v.B)))
	}
	for _, f := range v.F {
		b.WriteString(" {" + strconv.QuoteToASCII(f.Name) + ": ")
		write(b, f.V)
		b.WriteString("}")
	}
	for _, x := range v.L {
		b.WriteString(" [")
		write(b, x)
		b.WriteString("]")
	}
}

// parsed reads a query that may be, and looks that reading has changed nothing.
func parsed(t *testing.T, v api.Value) *query.Query {
	t.Helper()
	same := bson.Copy(v)
	q, e := query.Parse(v)
	if e != api.OK || q == nil {
		t.Fatalf("Parse of %s: %v", show(v), e)
	}
	if !bson.Same(v, same) {
		t.Errorf("Parse of %s has changed it", show(same))
	}
	return q
}

// wantNoQuery has Parse tell that error, and nothing beside it.
func wantNoQuery(t *testing.T, v api.Value, want api.Errno) {
	t.Helper()
	if q, e := query.Parse(v); q != nil || e != want {
		t.Errorf("Parse of %s: %v, %v, want %v", show(v), q != nil, e, want)
	}
}

// wantRead has Value, Paths and Fails of a query.
func wantRead(t *testing.T, v api.Value, mayFail bool, paths ...string) {
	t.Helper()
	q := parsed(t, v)
	var all [][]string
	for _, p := range paths {
		all = append(all, strings.Split(p, "."))
	}
	if got := q.Paths(); len(got)+len(all) > 0 && !reflect.DeepEqual(got, all) {
		t.Errorf("%s: Paths %q, want %q", show(v), got, all)
	}
	if q.Fails() != mayFail {
		t.Errorf("%s: Fails %v, want %v", show(v), !mayFail, mayFail)
	}
	if got := q.Value(); !bson.Same(got, v) {
		t.Errorf("Value %s, want %s", show(got), show(v))
	}
}

// want has Test of a query answer that.
func want(t *testing.T, v, d api.Value, matches bool) {
	t.Helper()
	wantAnswer(t, v, d, matches, api.OK)
}

// wantFault has Test tell that error, with nothing beside it.
func wantFault(t *testing.T, v, d api.Value, e api.Errno) {
	t.Helper()
	wantAnswer(t, v, d, false, e)
}

// wantAnswer asks twice, and looks that neither the query nor the document is changed.
func wantAnswer(t *testing.T, v, d api.Value, matches bool, wrong api.Errno) {
	t.Helper()
	q, same := parsed(t, v), bson.Copy(d)
	for range 2 {
		if got, e := q.Test(d); e != wrong || got != matches {
			t.Errorf("%s of %s: %v, %v, want %v, %v", show(v), show(d), got, e, matches, wrong)
		}
	}
	if !bson.Same(d, same) {
		t.Errorf("%s: Test has changed the document %s", show(v), show(same))
	}
	if !bson.Same(q.Value(), v) {
		t.Errorf("%s: Test has changed the query to %s", show(v), show(q.Value()))
	}
}

// wantAt has a condition of a field that is v: by its name, by a path, in documents within a List, turned round and within others.
func wantAt(t *testing.T, condition, v api.Value, matches bool) {
	t.Helper()
	d := docs(is("z", i32(7)), is("a", v), is("b", is("c", v)), is("l", list(i32(7), is("d", v))))
	for _, p := range []string{"a", "b.c", "l.d"} {
		want(t, is(p, condition), d, matches)
		want(t, is(p, is("$not", condition)), d, !matches)
		want(t, is(p, is("$not", is("$not", condition))), d, matches)
		want(t, op("$nor", is(p, condition)), d, !matches)
		want(t, op("$and", is("z", i32(7)), is(p, condition)), d, matches)
		want(t, op("$or", is("z", i32(8)), is(p, condition)), d, matches)
	}
}

// spoil changes all that hangs on a value, spare room too.
func spoil(v api.Value) {
	for _, f := range v.F {
		spoil(f.V)
	}
	for _, x := range v.L {
		spoil(x)
	}
	copy(v.B[:cap(v.B)], bytes.Repeat([]byte{0x55}, cap(v.B)))
	for i := range v.F[:cap(v.F)] {
		v.F[:cap(v.F)][i] = api.Field{Name: "spoilt", V: i32(77)}
	}
	for i := range v.L[:cap(v.L)] {
		v.L[:cap(v.L)][i] = i32(77)
	}
}

// endIfFailed keeps a test of very many from telling very many faults.
func endIfFailed(t *testing.T) {
	t.Helper()
	if t.Failed() {
		t.FailNow()
	}
}
