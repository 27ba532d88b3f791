package query_test

import (
	"slices"
	"testing"

	"aqueduct/api"
	"aqueduct/bson"
)

// roomy is a value with lists of every sort, with room behind them.
func roomy() api.Value {
	b := api.Value{Kind: api.Bytes, B: append(make([]byte, 0, 9), 1, 2, 3)}
	in := api.Value{Kind: api.Doc, F: append(make([]api.Field, 0, 5), api.Field{Name: "b", V: b}, api.Field{Name: "l", V: list(b, i32(2))})}
	return api.Value{Kind: api.List, L: append(make([]api.Value, 0, 7), in, b, list(in, b))}
}

// sharing are queries that hold of {a: roomy}, and have lists that could be shared.
func sharing() []api.Value {
	var l []api.Value
	for _, c := range row(roomy(), is("$eq", roomy()), op("$in", no, roomy()), is("$gte", roomy()), is("$not", is("$ne", roomy())), is("$not", op("$nin", i32(1), roomy())), op("$in", roomy().L[1])) {
		l = append(l, is("a", c), op("$and", is("a", c)), op("$nor", is("a", is("$not", c))))
		if c.Kind == api.List {
			l[len(l)-1] = op("$nor", is("a", is("$ne", c)))
		}
	}
	return append(l, is("$expr", op("$eq", text("$a"), is("$literal", roomy()))), is("$expr", text("$a")))
}

// TestAQueryIsItsOwn has what it was read from, its Value and the document changed by who has them: no later answer hangs on that.
func TestAQueryIsItsOwn(t *testing.T) {
	for i := range sharing() {
		v, d := sharing()[i], is("a", roomy())
		q := parsed(t, v)
		ask := func(what string) {
			t.Helper()
			b, e := q.Test(is("a", roomy()))
			if c, f := q.Test(is("a", null)); !b || c || e != api.OK || f != api.OK {
				t.Errorf("%s, %s: %v, %v, %v, %v", show(sharing()[i]), what, b, e, c, f)
			}
			if !bson.Same(q.Value(), sharing()[i]) {
				t.Errorf("%s, %s: Value is %s", show(sharing()[i]), what, show(q.Value()))
			}
		}
		ask("as read")
		spoil(v)
		ask("what it was read from is changed")
		first := q.Value()
		spoil(q.Value())
		ask("Value is changed")
		if !bson.Same(first, sharing()[i]) {
			t.Errorf("%s: a Value hangs on another", show(sharing()[i]))
		}
		q.Test(d)
		if !bson.Same(d, is("a", roomy())) {
			t.Errorf("%s: Test has changed the document", show(sharing()[i]))
		}
		spoil(d)
		ask("a document is changed")
	}
}

// TestOneValuesListsAreItsOwn has a list of Value changed: the others in it stay.
func TestOneValuesListsAreItsOwn(t *testing.T) {
	shared := roomy()
	got := parsed(t, docs(is("a", shared), is("b", shared))).Value()
	spoil(got.F[0].V)
	if !bson.Same(got.F[1].V, roomy()) {
		t.Error("two lists of one answer are one")
	}
}

// TestRoomIsLeftAlone has room behind what is handed in.
func TestRoomIsLeftAlone(t *testing.T) {
	fields := []api.Field{{Name: "a", V: i32(1)}, {Name: "b", V: list(numbers(2, 3, 4)[:2]...)}, {Name: "$none", V: i32(3)}}
	d := api.Value{Kind: api.Doc, F: fields[:2]}
	queries := row(d, is("a", i32(2)), doc())
	for _, v := range row(d, op("$or", queries[:2]...), is("$and", api.Value{Kind: api.List, L: queries[:1]}), is("b", d), is("b", api.Value{Kind: api.List, L: fields[1].V.L[:1]})) {
		q := parsed(t, v)
		q.Test(d)
		q.Value()
		q.Paths()
		if fields[2].Name != "$none" || !bson.Same(fields[2].V, i32(3)) || !bson.Same(list(fields[1].V.L[:3]...), list(numbers(2, 3, 4)...)) || !bson.Same(queries[2], doc()) {
			t.Fatal("room was changed", show(d))
		}
	}
}

// TestPathsAreTheCallers has them changed by who was handed them.
func TestPathsAreTheCallers(t *testing.T) {
	q := parsed(t, docs(is("a.b", i32(1)), is("$expr", op("$eq", text("$c"), text("$d.e.f"))), op("$or", is("g", i32(2)))))
	before, d := q.Paths(), docs(is("a", is("b", i32(1))), is("c", i32(5)), is("d", is("e", is("f", i32(5)))), is("g", i32(2)))
	for _, p := range q.Paths() {
		for i := range p[:cap(p)] {
			p[:cap(p)][i] = "spoilt"
		}
	}
	all := q.Paths()
	clear(all[:cap(all)])
	want := [][]string{{"a", "b"}, {"c"}, {"d", "e", "f"}, {"g"}}
	if !slices.EqualFunc(q.Paths(), want, slices.Equal) || !slices.EqualFunc(before, want, slices.Equal) {
		t.Error("Paths hangs on one that was changed", q.Paths(), before)
	}
	if b, e := q.Test(d); e != api.OK || !b {
		t.Error("Test hangs on Paths", b, e)
	}
}

// TestQueriesApart has two of one value, and one of many documents, by turns.
func TestQueriesApart(t *testing.T) {
	v := docs(is("a", is("$gt", i32(3))), is("$expr", op("$divide", i32(6), text("$b"))))
	x, y := parsed(t, v), parsed(t, v)
	for n := range int64(20) {
		d := docs(is("a", i32(n)), is("b", i32(n)))
		one, e := x.Test(d)
		if _, f := y.Test(docs(is("a", i32(9)), is("b", i32(0)))); f != api.ErrZero {
			t.Fatal(f)
		}
		two, f := y.Test(d)
		if e != api.OK || f != api.OK || one != (n > 3 && n < 7) || two != one {
			t.Fatal(n, one, e, two, f)
		}
	}
}
