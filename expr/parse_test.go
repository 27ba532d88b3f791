package expr_test

import (
	"reflect"
	"strings"
	"testing"

	"aqueduct/api"
	"aqueduct/bson"
	"aqueduct/expr"
)

// operators are all, with how many arguments each has (any: -1), but $literal.
func operators() map[string]int {
	return map[string]int{
		"$add": -1, "$multiply": -1, "$subtract": 2, "$divide": 2, "$mod": 2, "$abs": 1,
		"$eq": 2, "$ne": 2, "$gt": 2, "$gte": 2, "$lt": 2, "$lte": 2, "$cmp": 2,
		"$and": -1, "$or": -1, "$not": 1, "$cond": 3, "$ifNull": 2,
		"$concat": -1, "$size": 1, "$arrayElemAt": 2, "$type": 1,
	}
}

// wantRead has Value, Paths and Nodes of an expression.
func wantRead(t *testing.T, v api.Value, nodes int, paths ...string) {
	t.Helper()
	x := parsed(t, v)
	var all [][]string
	for _, p := range paths {
		all = append(all, strings.Split(p, "."))
	}
	if got := x.Paths(); len(got)+len(all) > 0 && !reflect.DeepEqual(got, all) {
		t.Errorf("%s: Paths %q, want %q", show(v), got, all)
	}
	if n := x.Nodes(); n != nodes {
		t.Errorf("%s: Nodes %d, want %d", show(v), n, nodes)
	}
	if got := x.Value(); !bson.Same(got, v) {
		t.Errorf("Value %s, want %s", show(got), show(v))
	}
}

func TestTheChaptersExample(t *testing.T) {
	v := op("$add", text("$a"), i32(3))
	wantOf(t, v, is("a", i32(2)), i32(5))
	wantRead(t, v, 4, "a")
}

// TestPlainValues has what stands for itself, with what is beside its kind, too.
func TestPlainValues(t *testing.T) {
	for _, v := range plain() {
		wantRead(t, v, 1)
		want(t, v, v)
		wantRead(t, beside(v), 3)
		want(t, beside(v), beside(v))
	}
}

func TestPaths(t *testing.T) {
	long := strings.Repeat("n", api.MaxName)
	for _, s := range []string{"a", "a.b", "a.0.b", "_id", " ", "a$", "a.b$c", "\u20ac.\u00e4", long, long + "." + long, strings.Repeat("a.", api.MaxPath-1) + "a"} {
		wantRead(t, text("$"+s), 1, s)
		wantRead(t, list(text("$"+s), text(s)), 3, s)
		wantRead(t, is("a", text("$"+s)), 2, s)
		wantRead(t, is("$abs", text("$"+s)), 2, s)
	}
	for _, s := range []string{"", "$", "$a", "$$a", ".", "a.", ".a", "a..b", "a.$b", "a\x00", "\xff", "a.\xff", long + "n", "a." + long + "n", strings.Repeat("a.", api.MaxPath) + "a"} {
		wantNoExpr(t, text("$"+s), api.ErrName)
		wantNoExpr(t, list(i32(1), text("$"+s)), api.ErrName)
		wantNoExpr(t, docs(is("a", i32(1)), is("b", text("$"+s))), api.ErrName)
		wantNoExpr(t, op("$add", i32(1), text("$"+s)), api.ErrName)
		wantNoExpr(t, is("$not", text("$"+s)), api.ErrName)
		want(t, literal(text("$"+s)), text("$"+s))
	}
}

// TestReading has Docs, Lists and operators within each other; paths stand in Paths as often as in the expression.
func TestReading(t *testing.T) {
	wantRead(t, doc(), 1)
	wantRead(t, list(), 1)
	wantRead(t, docs(is("a", i32(1)), is("", text("$b")), is("c.d", text("$a.b"))), 4, "b", "a.b")
	wantRead(t, list(text("$b"), text("$a"), text("$b")), 4, "b", "a", "b")
	wantRead(t, op("$add"), 2)
	wantRead(t, op("$cond", text("$z"), text("$y.x"), text("$z")), 5, "z", "y.x", "z")
	wantRead(t, is("$size", text("$z")), 2, "z")
	wantRead(t, is("$not", is("a", text("$z"))), 3, "z")
	wantRead(t, op("$eq", docs(is("x", text("$c")), is("y", op("$add", text("$b"), i32(1)))), list(text("$a"), doc(), list(text("$d")))), 13, "c", "b", "a", "d")
	// A dollar further on, and names that stand twice or may not be, are fields.
	odd := docs(is("a$", text("$a")), is(" $a", text("$b")), is("a$", text("$c")), is("\xff", text("$d")), is("\x00", text("$e")), is(strings.Repeat("n", 1000), text("$f")))
	wantRead(t, odd, 7, "a", "b", "c", "d", "e", "f")
}

// TestLiteral has its argument be what it is: no path in it is one, no error in it is told, and it is no List of arguments.
func TestLiteral(t *testing.T) {
	for _, v := range append(plain(), missing, text("$a"), text("$"), list(), list(text("$a")), list(text("$a"), text("$")), list(missing, null), list(list()),
		doc(), is("$add", text("x")), is("$none", text("$")), docs(is("$a", text("$b")), is("$add", list())), is("a", missing), op("$cond"), literal(text("$c")), none(-1), none(13)) {
		x := parsed(t, literal(v))
		if x.Nodes() != 1+nodesOf(v) || len(x.Paths()) != 0 {
			t.Errorf("literal %s: %d nodes, paths %q", show(v), x.Nodes(), x.Paths())
		}
		wantOf(t, literal(v), docs(is("a", i32(1)), is("b", i32(2))), v)
		wantOf(t, literal(beside(v)), doc(), beside(v))
	}
	wantRead(t, op("$add", text("$a"), literal(text("$b")), text("$c"), literal(list(text("$d"), op("$add", text("$e"))))), 12, "a", "c")
	wantRead(t, docs(is("a", literal(text("$b"))), is("b", literal(is("c", text("$d")))), is("c", text("$e"))), 7, "e")
}

// nodesOf counts v and all within.
func nodesOf(v api.Value) int {
	n := 1
	for _, f := range v.F {
		n += nodesOf(f.V)
	}
	for _, x := range v.L {
		n += nodesOf(x)
	}
	return n
}

// TestHowManyArguments has each operator with as many as it has, and with fewer and more.
func TestHowManyArguments(t *testing.T) {
	for name, many := range operators() {
		for n := range 6 {
			if many < 0 || n == many {
				wantRead(t, op(name, repeat(text("$a"), n)...), 2+n, strings.Fields(strings.Repeat("a ", n))...)
				continue
			}
			wantNoExpr(t, op(name, repeat(text("$a"), n)...), api.ErrQuery)
			wantNoExpr(t, list(i32(1), op(name, repeat(i32(1), n)...)), api.ErrQuery)
		}
		// What is no List is one argument, whatever it is.
		for _, v := range append(plain(), text("$a"), doc(), is("b", list(i32(1), i32(2), i32(3))), op("$add", i32(1), i32(2)), beside(text("a"))) {
			if many < 0 || many == 1 {
				if x := parsed(t, is(name, v)); x.Nodes() != 1+nodesOf(v) {
					t.Errorf("%s of %s: %d nodes", name, show(v), x.Nodes())
				}
			} else {
				wantNoExpr(t, is(name, v), api.ErrQuery)
			}
		}
		if many >= 0 {
			wantNoExpr(t, op(name, repeat(i32(1), api.MaxItems)...), api.ErrQuery)
		}
	}
}

// TestNoOperators has names that are none, alone, and any name with a dollar beside another field.
func TestNoOperators(t *testing.T) {
	for _, name := range []string{"$", "$$", "$$add", "$Add", "$ADD", "$add ", "$ add", "$adds", "$ad", "$sum", "$avg", "$in", "$literals", "$ifnull", "$nor", "$map", "$add.a", "$a", "$\x00", "$\xff", "$add\x00"} {
		for _, v := range []api.Value{i32(1), list(), list(i32(1)), list(i32(1), i32(2)), doc(), text("$"), missing} {
			wantNoExpr(t, is(name, v), api.ErrQuery)
			wantNoExpr(t, list(is(name, v)), api.ErrQuery)
			wantNoExpr(t, is("a", is(name, v)), api.ErrQuery)
			wantNoExpr(t, op("$and", is(name, v)), api.ErrQuery)
		}
	}
	for name := range operators() {
		wantNoExpr(t, docs(is(name, list()), is("a", i32(1))), api.ErrQuery)
	}
	for _, name := range []string{"$", "$literal", "$add", "$none", "$$"} {
		for _, other := range []string{"a", "", "$literal", "$add", name} {
			wantNoExpr(t, docs(is(name, i32(1)), is(other, i32(1))), api.ErrQuery)
			wantNoExpr(t, docs(is(other, i32(1)), is(name, i32(1))), api.ErrQuery)
			wantNoExpr(t, docs(is("b", text("$")), is(other, i32(1)), is(name, i32(1)), is("c", missing)), api.ErrQuery)
			wantNoExpr(t, op("$not", docs(is(other, i32(1)), is("x", i32(1)), is(name, i32(1)))), api.ErrQuery)
		}
	}
}

// TestNoValues has Missing and kinds that are none, wherever they stand, whatever is beside.
func TestNoValues(t *testing.T) {
	bad := row(missing)
	for _, kind := range kinds() {
		bad = append(bad, none(kind))
	}
	for _, v := range bad {
		for _, v := range row(v, beside(v)) {
			wantNoExpr(t, v, api.ErrType)
			wantNoExpr(t, list(v), api.ErrType)
			wantNoExpr(t, list(i32(1), v), api.ErrType)
			wantNoExpr(t, is("a", v), api.ErrType)
			wantNoExpr(t, docs(is("a", i32(1)), is("b", v)), api.ErrType)
			wantNoExpr(t, op("$add", i32(1), v), api.ErrType)
			wantNoExpr(t, is("$type", v), api.ErrType)
			wantNoExpr(t, list(literal(v), v), api.ErrType)
			want(t, list(literal(i32(1)), op("$type", literal(missing))), list(i32(1), text("missing")))
		}
	}
}

// TestTheFirstError has two in one expression: the one that is met first is told.
func TestTheFirstError(t *testing.T) {
	name, query, kind := text("$"), op("$none"), missing
	few, mixed := op("$eq", i32(1)), docs(is("a", i32(1)), is("$add", list()))
	faults := []struct {
		v api.Value
		e api.Errno
	}{{name, api.ErrName}, {query, api.ErrQuery}, {kind, api.ErrType}, {few, api.ErrQuery}, {mixed, api.ErrQuery}, {none(-1), api.ErrType}, {text("$a..b"), api.ErrName}}
	for _, x := range faults {
		for _, y := range faults {
			wantNoExpr(t, list(x.v, y.v), x.e)
			wantNoExpr(t, docs(is("b", x.v), is("a", y.v)), x.e)
			wantNoExpr(t, op("$add", x.v, y.v), x.e)
			wantNoExpr(t, op("$cond", i32(1), x.v, y.v), x.e)
			wantNoExpr(t, list(list(i32(1), is("a", op("$not", x.v))), y.v), x.e)
			wantNoExpr(t, list(i32(1), literal(y.v), x.v), x.e)
			wantNoExpr(t, docs(is("a", op("$or", i32(1), list(x.v))), is("b", y.v)), x.e)
		}
		// A Doc's own, and an operator's, come ahead of what is within; a List has none of its own.
		wantNoExpr(t, is("$none", x.v), api.ErrQuery)
		wantNoExpr(t, op("$none", x.v), api.ErrQuery)
		wantNoExpr(t, op("$eq", x.v), api.ErrQuery)
		wantNoExpr(t, op("$not", x.v, x.v), api.ErrQuery)
		wantNoExpr(t, is("$cond", x.v), api.ErrQuery)
		wantNoExpr(t, docs(is("a", x.v), is("$add", list())), api.ErrQuery)
		wantNoExpr(t, docs(is("$add", x.v), is("$add", list())), api.ErrQuery)
		wantNoExpr(t, op("$eq", i32(1), op("$none", x.v)), api.ErrQuery)
		wantNoExpr(t, is("$not", x.v), x.e)
		wantNoExpr(t, list(x.v), x.e)
	}
}

func TestNil(t *testing.T) {
	for _, x := range []*expr.Expr{nil, new(expr.Expr)} {
		if v, e := x.Eval(is("a", i32(1))); e != api.ErrArg || !reflect.DeepEqual(v, api.Value{}) {
			t.Error(show(v), e)
		}
		if !reflect.DeepEqual(x.Value(), api.Value{}) || len(x.Paths()) != 0 || x.Nodes() != 0 {
			t.Error(show(x.Value()), x.Paths(), x.Nodes())
		}
	}
}
