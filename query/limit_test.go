package query_test

import (
	"strconv"
	"testing"

	"aqueduct/api"
)

// nodesOf counts v and all within.
func nodesOf(v api.Value) int {
	n := 1
	for _, f := range v.F {
		n += nodesOf(f.V)
	}
	for _, x := range v.L {
		n += nodesOf(x)
	}
	return n
}

// wantNodes has a query of just so many values be read.
func wantNodes(t *testing.T, v api.Value, n int) {
	t.Helper()
	parsed(t, v)
	if got := nodesOf(v); got != n {
		t.Errorf("%s: %d nodes, want %d", show(v), got, n)
	}
}

// fields are so many of one value, of unlike names.
func fields(v api.Value, n int) api.Value {
	all := doc()
	for i := range n {
		all.F = append(all.F, api.Field{Name: "f" + strconv.Itoa(i), V: v})
	}
	return all
}

// TestMostNodes has just so many, and one more, of every sort of query that has values within.
func TestMostNodes(t *testing.T) {
	half := api.MaxNodes / 2
	for _, make := range []func(n int) api.Value{
		func(n int) api.Value { return docs(fields(null, half), is("z", list(repeat(missing, n-half-2)...))) },
		func(n int) api.Value {
			return is("a", docs(op("$in", repeat(null, half)...), op("$nin", repeat(null, n-half-4)...)))
		},
		func(n int) api.Value {
			return op("$and", fields(null, half), is("a", is("$eq", fields(missing, n-half-6))))
		},
		func(n int) api.Value {
			return docs(is("$expr", op("$add", repeat(i32(1), half)...)), is("$expr", is("$literal", list(repeat(missing, n-half-5)...))))
		},
	} {
		wantNodes(t, make(api.MaxNodes-1), api.MaxNodes-1)
		wantNodes(t, make(api.MaxNodes), api.MaxNodes)
		if n := nodesOf(make(api.MaxNodes + 1)); n != api.MaxNodes+1 {
			t.Error(n)
		}
		wantNoQuery(t, make(api.MaxNodes+1), api.ErrLong)
	}
}

// TestMostNodesOfWhateverKind counts what lies in fields and items where the kind has none. What is no value is told so within the limits alone, and may stand within a List.
func TestMostNodesOfWhateverKind(t *testing.T) {
	for kind := api.Missing - 1; kind <= api.Greatest+1; kind++ {
		v := api.Value{Kind: kind, L: repeat(none(13), 200), F: fields(missing, 197).F}
		wantNodes(t, is("a", list(v)), api.MaxNodes)
		wantNoQuery(t, is("a", list(v, null)), api.ErrLong)
		wantNoQuery(t, is("a", list(list(v))), api.ErrLong)
		v.F = fields(missing, 198).F
		if takes("$eq", v) {
			wantNodes(t, is("a", v), api.MaxNodes)
		} else {
			wantNoQuery(t, is("a", v), api.ErrQuery)
		}
		wantNoQuery(t, docs(is("a", v), is("b", null)), api.ErrLong)
		wantNoQuery(t, is("a", is("$eq", v)), api.ErrLong)
		more := v
		more.L = repeat(null, 201)
		wantNoQuery(t, is("a", more), api.ErrLong)
		more = v
		more.F = fields(null, 199).F
		wantNoQuery(t, is("a", more), api.ErrLong)
	}
	v := api.Value{Kind: api.List, L: repeat(null, 200), F: fields(null, 199).F}
	wantNoQuery(t, v, api.ErrQuery)
	v.F = fields(null, 200).F
	wantNoQuery(t, v, api.ErrLong)
}

// TestMostItems has just so many fields and items, and one more, with few values in all.
func TestMostItems(t *testing.T) {
	most, more := repeat(i32(1), api.MaxItems), repeat(i32(1), api.MaxItems+1)
	want(t, fields(i32(1), api.MaxItems), fields(i32(1), api.MaxItems), true)
	wantNoQuery(t, fields(i32(1), api.MaxItems+1), api.ErrLong)
	for _, name := range []string{"$and", "$or", "$nor"} {
		wantNodes(t, op(name, repeat(doc(), api.MaxItems)...), api.MaxItems+2)
		wantNoQuery(t, op(name, repeat(doc(), api.MaxItems+1)...), api.ErrLong)
		wantNodes(t, op(name, fields(null, api.MaxItems)), api.MaxItems+3)
		wantNoQuery(t, op(name, fields(null, api.MaxItems+1)), api.ErrLong)
	}
	for _, name := range []string{"$in", "$nin", "$eq", "$lt"} {
		wantNodes(t, is("a", op(name, most...)), api.MaxItems+3)
		wantNoQuery(t, is("a", op(name, more...)), api.ErrLong)
	}
	conditions := doc()
	for len(conditions.F) < api.MaxItems {
		conditions.F = append(conditions.F, api.Field{Name: "$ne", V: null})
	}
	wantNodes(t, is("a", conditions), api.MaxItems+2)
	conditions.F = append(conditions.F, api.Field{Name: "$ne", V: null})
	wantNoQuery(t, is("a", conditions), api.ErrLong)
	wantNodes(t, is("$expr", op("$add", most...)), api.MaxItems+3)
	wantNoQuery(t, is("$expr", op("$add", more...)), api.ErrLong)
	for kind := -1; kind <= api.Greatest+1; kind++ {
		wantNoQuery(t, api.Value{Kind: kind, L: more}, api.ErrLong)
		wantNoQuery(t, api.Value{Kind: kind, F: fields(null, api.MaxItems+1).F}, api.ErrLong)
		wantNoQuery(t, is("a", api.Value{Kind: kind, L: more}), api.ErrLong)
		wantNodes(t, is("a", list(api.Value{Kind: kind, L: most, F: fields(null, 100).F})), api.MaxItems+103)
	}
}

// TestMostDepth has Docs and Lists just so deep, and one deeper; what is neither may lie one deeper.
func TestMostDepth(t *testing.T) {
	for _, wrap := range []func(api.Value) api.Value{inList, inDoc} {
		for _, v := range row(i32(1), missing, text("x")) {
			parsed(t, is("b", deep(v, api.MaxDepth-1, wrap)))
			wantNoQuery(t, is("b", deep(v, api.MaxDepth, wrap)), api.ErrDeep)
			wantNoQuery(t, is("b", deep(v, 300, wrap)), api.ErrDeep)
			parsed(t, is("b", is("$eq", deep(v, api.MaxDepth-2, wrap))))
			wantNoQuery(t, is("b", is("$eq", deep(v, api.MaxDepth-1, wrap))), api.ErrDeep)
			parsed(t, is("$expr", is("$literal", deep(v, api.MaxDepth-2, wrap))))
			wantNoQuery(t, is("$expr", is("$literal", deep(v, api.MaxDepth-1, wrap))), api.ErrDeep)
			wantNoQuery(t, docs(is("b", deep(v, api.MaxDepth, wrap)), is("c", null)), api.ErrDeep)
		}
		parsed(t, is("b", deep(list(), api.MaxDepth-2, wrap)))
		wantNoQuery(t, is("b", deep(doc(), api.MaxDepth-1, wrap)), api.ErrDeep)
	}
	d := is("a", i32(1))
	and := func(v api.Value) api.Value { return op("$and", v) }
	not := func(v api.Value) api.Value { return is("$not", v) }
	want(t, deep(d, (api.MaxDepth-1)/2, and), d, true)
	want(t, deep(d, 15, func(v api.Value) api.Value { return op("$nor", v) }), d, false)
	wantNoQuery(t, deep(d, api.MaxDepth/2, and), api.ErrDeep)
	want(t, is("a", deep(is("$eq", i32(1)), api.MaxDepth-2, not)), d, true)
	want(t, is("a", deep(is("$eq", i32(1)), api.MaxDepth-3, not)), d, false)
	wantNoQuery(t, is("a", deep(is("$eq", i32(1)), api.MaxDepth-1, not)), api.ErrDeep)
}

// TestMostDepthOfWhateverKind has what is within a value be one deeper, also where its kind has nothing within, or is none and within a List.
func TestMostDepthOfWhateverKind(t *testing.T) {
	for _, kind := range []int{api.Missing, api.Null, api.Int32, api.Text, api.Greatest, 13} {
		byItems := func(v api.Value) api.Value { return api.Value{Kind: kind, L: row(v)} }
		byFields := func(v api.Value) api.Value { return api.Value{Kind: kind, F: is("a", v).F} }
		for _, wrap := range []func(api.Value) api.Value{byItems, byFields} {
			for _, v := range row(list(), doc()) {
				parsed(t, is("b", list(deep(v, api.MaxDepth-3, wrap))))
				wantNoQuery(t, is("b", list(deep(v, api.MaxDepth-2, wrap))), api.ErrDeep)
				wantNoQuery(t, is("b", deep(v, api.MaxDepth-1, wrap)), api.ErrDeep)
			}
			wantNodes(t, is("b", list(deep(i32(1), api.MaxNodes-3, wrap))), api.MaxNodes)
			wantNoQuery(t, is("b", list(deep(i32(1), api.MaxNodes-2, wrap))), api.ErrLong)
			wantNoQuery(t, is("b", deep(i32(1), api.MaxNodes-1, wrap)), api.ErrLong)
		}
	}
}

// TestLimitsComeAhead has ErrLong ahead of ErrDeep, wherever they stand, and both ahead of all else.
func TestLimitsComeAhead(t *testing.T) {
	long, tooDeep := list(repeat(null, api.MaxItems+1)...), deep(null, api.MaxDepth+1, inList)
	many := docs(is("a", list(repeat(null, 200)...)), is("b", list(repeat(null, 200)...)))
	wantNoQuery(t, docs(is("a", long), is("b", tooDeep)), api.ErrLong)
	wantNoQuery(t, docs(is("a", tooDeep), is("b", long)), api.ErrLong)
	wantNoQuery(t, docs(is("c", tooDeep), many), api.ErrLong)
	wantNoQuery(t, docs(many, is("c", tooDeep)), api.ErrLong)
	wantNoQuery(t, is("b", deep(null, api.MaxNodes-2, inList)), api.ErrDeep)
	wantNoQuery(t, is("b", deep(null, api.MaxNodes-1, inList)), api.ErrLong)
	wantNoQuery(t, is("b", deep(long, api.MaxDepth, inList)), api.ErrLong)
	for _, x := range wrongQueries() {
		for _, l := range []wrong{{long, api.ErrLong}, {tooDeep, api.ErrDeep}} {
			wantNoQuery(t, docs(x.v, is("z", l.v)), l.e)
			wantNoQuery(t, docs(is("z", l.v), x.v), l.e)
			wantNoQuery(t, docs(x.v, is("$none", l.v)), l.e)
			wantNoQuery(t, docs(is("", l.v), x.v), l.e)
			wantNoQuery(t, docs(x.v, is("$expr", is("$literal", l.v))), l.e)
			wantNoQuery(t, docs(is("$and", l.v), x.v), l.e)
			wantNoQuery(t, docs(is("a", is("$not", l.v)), x.v), l.e)
		}
		wantNoQuery(t, docs(x.v, many, is("z", tooDeep)), api.ErrLong)
	}
	for kind := -1; kind <= api.Greatest+1; kind++ {
		wantNoQuery(t, api.Value{Kind: kind, L: row(tooDeep)}, api.ErrDeep)
		wantNoQuery(t, api.Value{Kind: kind, L: row(long, tooDeep)}, api.ErrLong)
	}
}

// TestWithinItself has Lists and documents that lie within themselves, and one that lies in many places: reading ends.
func TestWithinItself(t *testing.T) {
	l := row(null, null)
	for i := range l {
		l[i] = list(l...)
	}
	wantNoQuery(t, is("a", list(l...)), api.ErrLong)
	f := []api.Field{{Name: "$not"}}
	f[0].V = doc(f...)
	wantNoQuery(t, is("a", doc(f...)), api.ErrLong)
	l = row(null)
	l[0] = op("$and", l...)
	wantNoQuery(t, l[0], api.ErrLong)
	many := i32(1)
	for range 30 {
		many = list(many, many)
	}
	wantNoQuery(t, is("a", many), api.ErrLong)
}
