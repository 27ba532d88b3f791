package query_test

import (
	"reflect"
	"slices"
	"strings"
	"testing"

	"aqueduct/api"
	"aqueduct/query"
)

// comparing are the operators that take any value.
func comparing() []string { return []string{"$eq", "$ne", "$gt", "$gte", "$lt", "$lte"} }

// typeNames are chapter 10's, in the order of the kinds.
func typeNames() []string {
	return strings.Fields("missing minKey null int long string object array binData objectId bool date maxKey")
}

// one is a condition of every operator.
func one() []api.Value {
	l := row(op("$in"), op("$nin", null), is("$exists", yes), is("$size", i32(1)), is("$type", text("int")), is("$not", is("$eq", null)))
	for _, name := range comparing() {
		l = append(l, is(name, text("x")))
	}
	return l
}

func TestExampleOfTheChapter(t *testing.T) {
	v := is("a", docs(is("$gt", i32(3)), is("$lt", i32(2))))
	want(t, v, is("a", list(numbers(1, 5)...)), true)
	wantRead(t, v, false, "a")
}

// TestNoDoc has what is no query, alone and where one must be.
func TestNoDoc(t *testing.T) {
	for _, v := range every() {
		if v.Kind == api.Doc {
			continue
		}
		for _, v := range row(v, beside(v)) {
			wantNoQuery(t, v, api.ErrQuery)
			for _, name := range []string{"$and", "$or", "$nor"} {
				wantNoQuery(t, op(name, v), api.ErrQuery)
				wantNoQuery(t, op(name, is("a", i32(1)), v), api.ErrQuery)
				wantNoQuery(t, op(name, v, is("a", i32(1))), api.ErrQuery)
				wantNoQuery(t, op("$and", op(name, v)), api.ErrQuery)
			}
		}
	}
}

// TestValuesByThemselves has any value that is no Doc with a dollar first: it is asked for as it is.
func TestValuesByThemselves(t *testing.T) {
	for _, v := range some() {
		for _, v := range row(v, beside(v)) {
			wantRead(t, is("a", v), false, "a")
			wantRead(t, docs(is("a.b", v), is("c", v)), false, "a.b", "c")
			wantAt(t, is("$eq", v), v, true)
			want(t, is("a", v), is("a", v), true)
			want(t, is("a", v), is("a", text("another")), false)
		}
	}
}

// TestWhatIsNoValue has it stand where a value to compare with must be.
func TestWhatIsNoValue(t *testing.T) {
	for _, v := range nothing() {
		for _, v := range row(v, beside(v)) {
			wantRefusedAt(t, v)
			for _, name := range comparing() {
				c := is(name, v)
				for _, c := range row(c, docs(is("$ne", null), c), docs(c, is("$ne", null)), docs(c, is("$none", null))) {
					wantRefusedAt(t, c)
					wantRefusedAt(t, is("$not", c))
					wantRefusedAt(t, docs(is("$exists", yes), is("$not", is("$not", c))))
				}
			}
		}
	}
}

// wantRefusedAt has a field of that condition, or value, be told with ErrQuery wherever the field stands, but for an error ahead of it.
func wantRefusedAt(t *testing.T, condition api.Value) {
	t.Helper()
	for _, q := range row(is("a", condition), is("a.b", condition)) {
		wantNoQuery(t, q, api.ErrQuery)
		wantNoQuery(t, docs(is("z", i32(1)), q, is("y", null)), api.ErrQuery)
		wantNoQuery(t, docs(q, is("a..b", null)), api.ErrQuery)
		wantNoQuery(t, docs(is("a..b", null), q), api.ErrName)
		wantNoQuery(t, docs(q, is("$expr", missing)), api.ErrQuery)
		wantNoQuery(t, docs(is("$expr", missing), q), api.ErrType)
		for _, name := range []string{"$and", "$or", "$nor"} {
			wantNoQuery(t, op(name, q), api.ErrQuery)
			wantNoQuery(t, op(name, doc(), op("$or", docs(is("z", null), q)), is("", null)), api.ErrQuery)
			wantNoQuery(t, op(name, is("", null), q), api.ErrName)
		}
	}
	wantNoQuery(t, is("a..b", condition), api.ErrName)
}

func TestPathsOfFields(t *testing.T) {
	long := strings.Repeat("n", api.MaxName)
	for _, s := range []string{"a", "a.b", "a.0.b", "_id", " ", " $a", "a$", "a.b$c", "\u20ac.\u00e4", long, long + "." + long, strings.Repeat("a.", api.MaxPath-1) + "a"} {
		for _, c := range append(one(), i32(1), doc(), is("b", null), docs(one()...)) {
			wantRead(t, is(s, c), false, s)
			wantRead(t, docs(is("z", i32(1)), is(s, c)), false, "z", s)
			wantRead(t, op("$or", is(s, c)), false, s)
		}
	}
	for _, s := range []string{"", ".", "a.", ".a", "a..b", "a.$b", "a.b.$", ".$a", "a\x00", "\xff", "a.\xff", long + "n", "a." + long + "n", strings.Repeat("a.", api.MaxPath) + "a"} {
		for _, c := range append(one(), i32(1), missing, doc(), is("$none", i32(1)), is("$size", null)) {
			wantNoQuery(t, is(s, c), api.ErrName)
			wantNoQuery(t, docs(is("z", i32(1)), is(s, c)), api.ErrName)
			wantNoQuery(t, op("$nor", is("z", i32(1)), is(s, c)), api.ErrName)
		}
	}
}

// TestReading has fields and queries within each other; paths stand in Paths as often as in the query.
func TestReading(t *testing.T) {
	wantRead(t, doc(), false)
	wantRead(t, docs(is("b", i32(1)), is("a.c", text("$d")), is("b", docs(one()...))), false, "b", "a.c", "b")
	for _, name := range []string{"$and", "$or", "$nor"} {
		wantRead(t, op(name, doc()), false)
		wantRead(t, op(name, is("c", i32(1)), docs(is("b", null), is("a", null)), is("c", list())), false, "c", "b", "a", "c")
		wantRead(t, docs(is("z", i32(1)), op(name, op("$or", is("y.x", i32(1))), op("$and", is("w", null))), is("v", i32(2))), false, "z", "y.x", "w", "v")
		wantRead(t, docs(op(name, doc()), op(name, is("a", null)), op(name, doc())), false, "a")
	}
	sum := op("$add", text("$b.c"), text("$a"), is("$literal", text("$z")))
	wantRead(t, is("$expr", sum), true, "b.c", "a")
	wantRead(t, is("$expr", i32(1)), true)
	wantRead(t, is("$expr", doc()), true)
	wantRead(t, is("$expr", is("$literal", missing)), true)
	wantRead(t, docs(is("d", i32(1)), is("$expr", sum), is("e", null), is("$expr", text("$f"))), true, "d", "b.c", "a", "e", "f")
	wantRead(t, docs(op("$nor", is("d", null), op("$and", is("g", null), docs(is("$expr", sum), is("h", null)))), is("e", null)), true, "d", "g", "b.c", "a", "h", "e")
	// What looks like an expression within a value is none, nor is a path.
	for _, v := range row(is("x", is("$expr", text("$y"))), list(is("$expr", text("$y"))), text("$y"), is("$in", list(is("$expr", text("$y")), text("$y"))), is("$eq", is("$expr", text("$y"))), is("$not", is("$ne", is("$and", null)))) {
		wantRead(t, is("a", v), false, "a")
	}
	// Names that stand twice are two fields.
	twice := docs(is("a", i32(1)), is("a", i32(2)))
	wantRead(t, twice, false, "a", "a")
	want(t, twice, is("a", list(numbers(1, 2)...)), true)
	want(t, twice, is("a", list(numbers(1, 3)...)), false)
}

// TestNoList has $and, $or and $nor of what is no List of queries.
func TestNoList(t *testing.T) {
	for _, name := range []string{"$and", "$or", "$nor"} {
		wantNoQuery(t, op(name), api.ErrQuery)
		wantNoQuery(t, is(name, beside(list())), api.ErrQuery)
		wantNoQuery(t, is(name, api.Value{Kind: api.List, F: is("a", i32(1)).F}), api.ErrQuery)
		wantNoQuery(t, is(name, is("a", i32(1))), api.ErrQuery)
		for _, v := range every() {
			if v.Kind != api.List {
				wantNoQuery(t, is(name, v), api.ErrQuery)
				wantNoQuery(t, is(name, api.Value{Kind: v.Kind, L: row(doc())}), api.ErrQuery)
				wantNoQuery(t, docs(is("a", i32(1)), is(name, v)), api.ErrQuery)
			}
		}
	}
}

// TestNoNames has names with a dollar that are none, of a query and of a condition.
func TestNoNames(t *testing.T) {
	names := []string{"$", "$$", "$$and", "$And", "$AND", "$and ", "$ and", "$ands", "$an", "$not", "$eq", "$in", "$exists", "$literal", "$where", "$text", "$comment", "$expr.a", "$and.a", "$a", "$\x00", "$\xff", "$expr\x00", "$Expr", "$ne"}
	for _, name := range names {
		for _, v := range row(i32(1), list(), list(doc()), list(is("a", i32(1))), doc(), is("$eq", i32(1)), text("a"), missing) {
			wantNoQuery(t, is(name, v), api.ErrQuery)
			wantNoQuery(t, docs(is("a", i32(1)), is(name, v)), api.ErrQuery)
			wantNoQuery(t, op("$or", is(name, v)), api.ErrQuery)
		}
	}
	for _, name := range []string{"$", "$$", "$$eq", "$Eq", "$EQ", "$eq ", "$ eq", "$eqs", "$e", "$and", "$or", "$nor", "$expr", "$all", "$regex", "$elemMatch", "$cmp", "$eq.a", "$a", "$\x00", "$\xff", "$eq\x00", "a", "", "eq", "a.b", " $eq"} {
		for _, v := range row(i32(1), list(doc()), yes, text("int"), is("$eq", i32(1)), missing) {
			if strings.HasPrefix(name, "$") {
				wantNoQuery(t, is("a", is(name, v)), api.ErrQuery)
				wantNoQuery(t, is("a", docs(is(name, v), is("$eq", v))), api.ErrQuery)
			}
			for _, c := range one() {
				wantNoQuery(t, is("a", docs(c, is(name, v))), api.ErrQuery)
				wantNoQuery(t, is("a", docs(c, is(name, v), c)), api.ErrQuery)
			}
			wantNoQuery(t, is("a", is("$not", is(name, v))), api.ErrQuery)
			wantNoQuery(t, is("a", is("$not", docs(is("$eq", v), is(name, v)))), api.ErrQuery)
		}
	}
}

// TestADollarFurtherOn has documents whose first field's name begins with none: they are values, whatever comes behind.
func TestADollarFurtherOn(t *testing.T) {
	for _, v := range row(docs(is("a", i32(1)), is("$eq", i32(1))), docs(is("", null), is("$none", i32(1))), docs(is("a$", i32(1)), is("$gt", i32(0)), is("$lt", i32(9))), is("b", is("$none", null))) {
		wantRead(t, is("a", v), false, "a")
		want(t, is("a", v), is("a", v), true)
		want(t, is("a", v), is("a", list(i32(1), v)), true)
		want(t, is("a", v), is("a", i32(1)), false)
	}
	turned := docs(is("$eq", i32(1)), is("a", i32(1)))
	wantNoQuery(t, is("a", turned), api.ErrQuery)
	want(t, is("a", is("$eq", turned)), is("a", turned), true)
	// What has fields and is no Doc is a value, too, if its kind is one.
	for _, v := range append(plain(), list()) {
		v.F = is("$none", i32(1)).F
		wantRead(t, is("a", v), false, "a")
	}
	for _, v := range nothing() {
		v.F = is("$eq", i32(1)).F
		wantNoQuery(t, is("a", v), api.ErrQuery)
	}
}

// takes tells whether an operator takes a value.
func takes(name string, v api.Value) bool {
	switch name {
	case "$in", "$nin":
		return v.Kind == api.List
	case "$exists":
		return v.Kind == api.Bool
	case "$size":
		return v.Kind == api.Int32 || v.Kind == api.Int64
	case "$type":
		return v.Kind == api.Text && slices.Contains(typeNames()[1:], v.S)
	case "$not":
		return false
	}
	return v.Kind > api.Missing && v.Kind <= api.Greatest
}

// TestWhatOperatorsTake has each operator with a value of each kind.
func TestWhatOperatorsTake(t *testing.T) {
	for _, name := range append(comparing(), "$in", "$nin", "$exists", "$size", "$type", "$not") {
		for _, v := range every() {
			for _, v := range row(v, beside(v)) {
				for _, q := range row(is("a", is(name, v)), is("a", docs(is("$ne", null), is(name, v))), is("a", is("$not", is(name, v))), op("$and", doc(), is("a", is(name, v)))) {
					if takes(name, v) {
						wantRead(t, q, false, "a")
					} else {
						wantNoQuery(t, q, api.ErrQuery)
					}
				}
			}
		}
	}
}

func TestTypeNames(t *testing.T) {
	for kind, name := range typeNames() {
		if kind == api.Missing {
			wantNoQuery(t, is("a", is("$type", text(name))), api.ErrQuery)
			continue
		}
		wantRead(t, is("a", is("$type", text(name))), false, "a")
		for _, s := range []string{name + " ", " " + name, strings.ToUpper(name), name + "\x00", "$" + name, name[1:]} {
			wantNoQuery(t, is("a", is("$type", text(s))), api.ErrQuery)
		}
		wantNoQuery(t, is("a", op("$type", text(name))), api.ErrQuery)
		wantNoQuery(t, is("a", is("$type", i32(int64(kind)))), api.ErrQuery)
		wantNoQuery(t, is("a", is("$type", api.Value{Kind: api.Bytes, S: name})), api.ErrQuery)
	}
	for _, s := range []string{"", "number", "double", "decimal", "regex", "undefined", "timestamp", "list", "doc", "none"} {
		wantNoQuery(t, is("a", is("$type", text(s))), api.ErrQuery)
	}
}

// TestNot has $not of conditions, and of what are none.
func TestNot(t *testing.T) {
	for _, c := range append(one(), docs(one()...)) {
		wantRead(t, is("a", is("$not", c)), false, "a")
		wantRead(t, is("a", is("$not", is("$not", c))), false, "a")
		wantNoQuery(t, is("a", op("$not", c)), api.ErrQuery)
		wantNoQuery(t, is("a", is("$not", is("b", c))), api.ErrQuery)
		wantNoQuery(t, is("a", is("$not", docs(c, is("b", i32(1))))), api.ErrQuery)
		wantNoQuery(t, is("$not", is("a", c)), api.ErrQuery)
	}
	wantNoQuery(t, is("a", is("$not", doc())), api.ErrQuery)
	wantNoQuery(t, is("a", is("$not", is("$not", doc()))), api.ErrQuery)
	wantNoQuery(t, is("a", is("$not", beside(doc()))), api.ErrQuery)
	for _, v := range append(plain(), list(), missing, none(13)) {
		v.F = is("$eq", null).F
		wantNoQuery(t, is("a", is("$not", v)), api.ErrQuery)
	}
}

// TestErrorsOfAnExpression has each of those of chapter 10.
func TestErrorsOfAnExpression(t *testing.T) {
	for _, x := range wrongExpressions() {
		wantNoQuery(t, is("$expr", x.v), x.e)
		wantNoQuery(t, docs(is("a", i32(1)), is("$expr", x.v)), x.e)
		wantNoQuery(t, op("$nor", doc(), op("$or", is("$expr", x.v))), x.e)
		wantNoQuery(t, is("$expr", op("$and", i32(1), x.v)), x.e)
	}
}

// wrong is what is no query, or no expression, and the error of it.
type wrong struct {
	v api.Value
	e api.Errno
}

func wrongExpressions() []wrong {
	return []wrong{{missing, api.ErrType}, {none(13), api.ErrType}, {none(-1), api.ErrType}, {text("$"), api.ErrName}, {text("$a..b"), api.ErrName}, {text("$$a"), api.ErrName},
		{is("$none", i32(1)), api.ErrQuery}, {op("$eq", i32(1)), api.ErrQuery}, {docs(is("a", i32(1)), is("$add", list())), api.ErrQuery}, {is("$gt", i32(1)), api.ErrQuery}}
}

// wrongQueries are each wrong in one thing.
func wrongQueries() []wrong {
	l := []wrong{{is("", i32(1)), api.ErrName}, {is("a..b", is("$gt", i32(1))), api.ErrName}, {is("$none", i32(1)), api.ErrQuery}, {op("$or"), api.ErrQuery}, {is("$and", doc()), api.ErrQuery},
		{is("a", is("$none", i32(1))), api.ErrQuery}, {is("a", is("$size", null)), api.ErrQuery}, {is("a", docs(is("$eq", i32(1)), is("b", i32(1)))), api.ErrQuery}, {op("$nor", i32(1)), api.ErrQuery}, {is("a", is("$not", doc())), api.ErrQuery},
		{is("a", missing), api.ErrQuery}, {is("a", none(13)), api.ErrQuery}, {is("a", is("$lte", missing)), api.ErrQuery}, {is("a", is("$not", is("$ne", none(-1)))), api.ErrQuery}}
	for _, x := range wrongExpressions() {
		l = append(l, wrong{is("$expr", x.v), x.e})
	}
	return l
}

// TestTheFirstError has two in one query: the one that is met first is told.
func TestTheFirstError(t *testing.T) {
	for _, x := range wrongQueries() {
		for _, y := range wrongQueries() {
			wantNoQuery(t, docs(x.v, y.v), x.e)
			wantNoQuery(t, docs(is("a", i32(1)), x.v, is("b", i32(1)), y.v), x.e)
			for _, name := range []string{"$and", "$or", "$nor"} {
				wantNoQuery(t, op(name, x.v, y.v), x.e)
				wantNoQuery(t, op(name, doc(), docs(is("a", i32(1)), op("$or", x.v)), y.v), x.e)
				wantNoQuery(t, docs(op(name, x.v), y.v), x.e)
				wantNoQuery(t, docs(x.v, op(name, y.v)), x.e)
			}
		}
		// A List's items are read in order, also where one of them is no Doc.
		wantNoQuery(t, op("$and", x.v, i32(1)), x.e)
		wantNoQuery(t, op("$and", i32(1), x.v), api.ErrQuery)
		// What is no query within is not looked into.
		wantNoQuery(t, is("$none", list(x.v)), api.ErrQuery)
		wantNoQuery(t, is("$and", x.v), api.ErrQuery)
		wantNoQuery(t, is("a..b", x.v), api.ErrName)
		wantNoQuery(t, docs(is("a", docs(is("$eq", x.v), is("b", x.v))), x.v), api.ErrQuery)
		wantRead(t, is("a", list(x.v)), false, "a")
		wantRead(t, is("a", is("$eq", x.v)), false, "a")
	}
}

func TestNil(t *testing.T) {
	for _, q := range []*query.Query{nil, new(query.Query)} {
		if b, e := q.Test(is("a", i32(1))); e != api.ErrArg || b {
			t.Error(b, e)
		}
		if !reflect.DeepEqual(q.Value(), api.Value{}) || len(q.Paths()) != 0 || q.Fails() {
			t.Error(show(q.Value()), q.Paths(), q.Fails())
		}
	}
}
