package expr_test

import (
	"bytes"
	"math"
	"reflect"
	"strconv"
	"strings"
	"testing"

	"aqueduct/api"
	"aqueduct/bson"
	"aqueduct/expr"
)

// The values, short.
var (
	missing  = api.Value{}
	least    = api.Value{Kind: api.Least}
	null     = api.Value{Kind: api.Null}
	greatest = api.Value{Kind: api.Greatest}
	yes      = boolean(1)
	no       = boolean(0)
)

func i32(n int64) api.Value         { return api.Value{Kind: api.Int32, N: n} }
func i64(n int64) api.Value         { return api.Value{Kind: api.Int64, N: n} }
func text(s string) api.Value       { return api.Value{Kind: api.Text, S: s} }
func raw(s string) api.Value        { return api.Value{Kind: api.Bytes, B: []byte(s)} }
func id(s string) api.Value         { return api.Value{Kind: api.Id, B: []byte(s)} }
func boolean(n int64) api.Value     { return api.Value{Kind: api.Bool, N: n} }
func date(n int64) api.Value        { return api.Value{Kind: api.Date, N: n} }
func list(l ...api.Value) api.Value { return api.Value{Kind: api.List, L: l} }
func none(kind int) api.Value       { return api.Value{Kind: kind} }

// is is a Doc of one field: an operator with what it has, too.
func is(name string, v api.Value) api.Value { return doc(api.Field{Name: name, V: v}) }

func doc(l ...api.Field) api.Value { return api.Value{Kind: api.Doc, F: l} }

// docs joins the fields of several documents.
func docs(l ...api.Value) api.Value {
	all := doc()
	for _, v := range l {
		all.F = append(all.F, v.F...)
	}
	return all
}

// op is an operator with a List of arguments.
func op(name string, l ...api.Value) api.Value { return is(name, list(l...)) }

func literal(v api.Value) api.Value { return is("$literal", v) }

// row is a row of values.
func row(l ...api.Value) []api.Value { return l }

// repeat is a row of one value, n times.
func repeat(v api.Value, n int) []api.Value {
	var l []api.Value
	for range n {
		l = append(l, v)
	}
	return l
}

// fault is an expression whose Eval is an error that no operator beside it tells: ErrZero.
func fault() api.Value { return op("$divide", i32(1), i32(0)) }

// far is one whose Eval is ErrRange.
func far() api.Value { return is("$abs", i64(math.MinInt64)) }

// plain are values that are no Missing, no Doc and no List, with some that may not be.
func plain() []api.Value {
	return row(least, null, i32(0), i32(-7), i64(0), i64(1<<40), text(""), text("a"), text("a$b"), text(" $a"), text("\xff"),
		raw(""), raw("$a"), id("abcdefghijkl"), id(""), no, yes, boolean(2), date(0), date(-5), greatest, i32(1<<40))
}

// kinds are those that are none.
func kinds() []int {
	return []int{-1, 13, 14, 256, math.MinInt, math.MaxInt, 1 << 32, 1<<32 + api.Int32, -api.Text}
}

// beside gives v all that its kind does not have.
func beside(v api.Value) api.Value {
	more := api.Value{Kind: v.Kind, N: 6, S: "b", B: []byte{9}, F: is("a", text("a")).F, L: row(i32(5))}
	switch v.Kind {
	case api.Int32, api.Int64, api.Bool, api.Date:
		more.N = v.N
	case api.Text:
		more.S = v.S
	case api.Bytes, api.Id:
		more.B = v.B
	case api.Doc:
		more.F = v.F
	case api.List:
		more.L = v.L
	}
	return more
}

// deep lies so many Lists (or Docs) deep, v being within the innermost.
func deep(v api.Value, depth int, wrap func(api.Value) api.Value) api.Value {
	for range depth {
		v = wrap(v)
	}
	return v
}

func inList(v api.Value) api.Value { return list(v) }
func inDoc(v api.Value) api.Value  { return is("a", v) }

// show is a value as a short text: its kind, and what it has.
func show(v api.Value) string {
	var b strings.Builder
	write(&b, v)
	return b.String()[:min(b.Len(), 400)]
}

func write(b *strings.Builder, v api.Value) {
	if b.Len() > 400 {
		return
	}
	names := []string{"-", "least", "null", "i32", "i64", "text", "doc", "list", "bytes", "id", "bool", "date", "greatest"}
	if v.Kind >= 0 && v.Kind < len(names) {
		b.WriteString(names[v.Kind])
	} else {
		b.WriteString("kind" + strconv.Itoa(v.Kind))
	}
	if v.N != 0 {
		b.WriteString(" " + strconv.FormatInt(v.N, 10))
	}
	if v.S != "" || len(v.B) > 0 {
		b.WriteString(" " + strconv.QuoteToASCII(v.S[:min(len(v.S), 50)]) + strconv.QuoteToASCII(string(v.B)))
	}
	for _, f := range v.F {
		b.WriteString(" {" + strconv.QuoteToASCII(f.Name) + ": ")
		write(b, f.V)
		b.WriteString("}")
	}
	for _, x := range v.L {
		b.WriteString(" [")
		write(b, x)
		b.WriteString("]")
	}
}

// parsed reads an expression that may be, and looks that reading has changed nothing.
func parsed(t *testing.T, v api.Value) *expr.Expr {
	t.Helper()
	same := bson.Copy(v)
	x, e := expr.Parse(v)
	if e != api.OK || x == nil {
		t.Fatalf("Parse of %s: %v", show(v), e)
	}
	if !bson.Same(v, same) {
		t.Errorf("Parse of %s has changed it", show(same))
	}
	return x
}

// wantNoExpr has Parse tell that error, and nothing beside it.
func wantNoExpr(t *testing.T, v api.Value, want api.Errno) {
	t.Helper()
	if x, e := expr.Parse(v); x != nil || e != want {
		t.Errorf("Parse of %s: %v, %v, want %v", show(v), x != nil, e, want)
	}
}

// wantOf has Eval of an expression bring that, twice, and change neither the expression nor the document.
func wantOf(t *testing.T, v, d, want api.Value) {
	t.Helper()
	wantAnswer(t, v, d, want, api.OK)
}

// want is wantOf where no document is looked at.
func want(t *testing.T, v, x api.Value) {
	t.Helper()
	wantAnswer(t, v, doc(), x, api.OK)
}

// wantFault has Eval tell that error, with nothing beside it.
func wantFault(t *testing.T, v, d api.Value, e api.Errno) {
	t.Helper()
	wantAnswer(t, v, d, missing, e)
}

func wantAnswer(t *testing.T, v, d, want api.Value, wrong api.Errno) {
	t.Helper()
	x, same := parsed(t, v), bson.Copy(d)
	for range 2 {
		got, e := x.Eval(d)
		if e != wrong || !bson.Same(got, want) || e != api.OK && !reflect.DeepEqual(got, api.Value{}) {
			t.Errorf("%s of %s: %s, %v, want %s, %v", show(v), show(d), show(got), e, show(want), wrong)
		}
	}
	if !bson.Same(d, same) {
		t.Errorf("%s: Eval has changed the document %s", show(v), show(same))
	}
	if !bson.Same(x.Value(), v) {
		t.Errorf("%s: Eval has changed the expression to %s", show(v), show(x.Value()))
	}
}

// wantCall has an operator of those arguments, however they come: as they stand, by paths, from expressions within.
func wantCall(t *testing.T, name string, arguments []api.Value, want api.Value, wrong api.Errno) {
	t.Helper()
	d := is("in", doc())
	var paths, inner, within, stand []api.Value
	for i, v := range arguments {
		field := "x" + strconv.Itoa(i)
		d = bson.With(d, field, v)
		d.F[0].V = bson.With(d.F[0].V, field, v)
		paths, inner = append(paths, text("$"+field)), append(inner, text("$in."+field))
		within = append(within, []api.Value{literal(v), op("$ifNull", literal(null), text("$"+field)), op("$cond", no, never(), literal(v))}[i%3])
		if stands(v) {
			stand = append(stand, v)
		}
	}
	for _, l := range [][]api.Value{paths, inner, within} {
		wantAnswer(t, is(name, list(l...)), d, want, wrong)
	}
	if len(stand) == len(arguments) {
		wantAnswer(t, is(name, list(stand...)), d, want, wrong)
	}
	if len(arguments) == 1 {
		wantAnswer(t, is(name, paths[0]), d, want, wrong)
		wantAnswer(t, is(name, within[0]), d, want, wrong)
	}
}

// never is an expression that is never to be reckoned.
func never() api.Value { return is("$size", text("none")) }

// stands tells whether a value, as an expression, is itself.
func stands(v api.Value) bool {
	if v.Kind == api.Missing || v.Kind < 0 || v.Kind > api.Greatest || v.Kind == api.Text && strings.HasPrefix(v.S, "$") {
		return false
	}
	for _, f := range v.F {
		if strings.HasPrefix(f.Name, "$") || !stands(f.V) {
			return false
		}
	}
	for _, x := range v.L {
		if !stands(x) {
			return false
		}
	}
	return v.Kind != api.Doc && v.Kind != api.List || v.N == 0 && v.S == "" && len(v.B) == 0
}

// spoil changes all that hangs on a value, spare room too.
func spoil(v api.Value) {
	for _, f := range v.F {
		spoil(f.V)
	}
	for _, x := range v.L {
		spoil(x)
	}
	copy(v.B[:cap(v.B)], bytes.Repeat([]byte{0x55}, cap(v.B)))
	for i := range v.F[:cap(v.F)] {
		v.F[:cap(v.F)][i] = api.Field{Name: "spoilt", V: i32(77)}
	}
	for i := range v.L[:cap(v.L)] {
		v.L[:cap(v.L)][i] = i32(77)
	}
}

// endIfFailed keeps a test of very many from telling very many faults.
func endIfFailed(t *testing.T) {
	t.Helper()
	if t.Failed() {
		t.FailNow()
	}
}
