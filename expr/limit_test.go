package expr_test

import (
	"testing"

	"aqueduct/api"
)

// wantNodes has an expression of just so many values be read.
func wantNodes(t *testing.T, v api.Value, n int) {
	t.Helper()
	if got := parsed(t, v).Nodes(); got != n || nodesOf(v) != n {
		t.Errorf("%s: %d and %d nodes, want %d", show(v), got, nodesOf(v), n)
	}
}

// fields are so many of one value, of unlike names.
func fields(v api.Value, n int) api.Value {
	all := doc()
	for i := range n {
		all.F = append(all.F, api.Field{Name: string(rune('a' + i)), V: v})
	}
	return all
}

// TestMostNodes has just so many, and one more, of every sort of value that has others within.
func TestMostNodes(t *testing.T) {
	half := api.MaxNodes / 2
	for _, l := range [][2]api.Value{
		{list(list(repeat(null, half-2)...), list(repeat(null, half-1)...)), list(list(repeat(null, half-1)...), list(repeat(null, half-1)...))},
		{docs(is("x", fields(null, half-2)), is("y", fields(null, half-1))), docs(is("x", fields(null, half-1)), is("y", fields(null, half-1)))},
		{op("$add", op("$add", repeat(i32(1), half-3)...), op("$add", repeat(i32(1), half-3)...)), op("$add", op("$add", repeat(i32(1), half-3)...), op("$add", repeat(i32(1), half-2)...))},
		{literal(list(list(repeat(missing, half-2)...), list(repeat(missing, half-2)...))), literal(list(list(repeat(missing, half-2)...), list(repeat(missing, half-1)...)))},
	} {
		wantNodes(t, l[0], api.MaxNodes)
		if nodesOf(l[1]) != api.MaxNodes+1 {
			t.Error(nodesOf(l[1]))
		}
		wantNoExpr(t, l[1], api.ErrLong)
	}
}

// TestMostNodesOfWhateverKind counts what lies in fields and items where the kind has none.
func TestMostNodesOfWhateverKind(t *testing.T) {
	for kind := api.Least; kind <= api.Greatest; kind++ {
		v := api.Value{Kind: kind, L: repeat(missing, 200), F: fields(missing, 199).F}
		if kind == api.Doc || kind == api.List {
			v.L, v.F = repeat(null, 200), fields(null, 199).F
		}
		wantNodes(t, v, api.MaxNodes)
		more := v
		more.L = repeat(null, 201)
		wantNoExpr(t, more, api.ErrLong)
		more = v
		more.F = fields(null, 200).F
		wantNoExpr(t, more, api.ErrLong)
		wantNoExpr(t, list(v), api.ErrLong)
		inner := list(api.Value{Kind: kind, L: row(i32(1), list(i32(2))), F: fields(list(null), 2).F})
		wantNodes(t, inner, 9)
	}
	wantNoExpr(t, api.Value{Kind: 13, L: repeat(null, 200), F: fields(null, 199).F}, api.ErrType)
	wantNoExpr(t, api.Value{Kind: 13, L: repeat(null, 200), F: fields(null, 200).F}, api.ErrLong)
}

// TestMostItems has just so many fields and items, and one more, with few values in all.
func TestMostItems(t *testing.T) {
	most, more := repeat(i32(1), api.MaxItems), repeat(i32(1), api.MaxItems+1)
	wantNodes(t, list(most...), api.MaxItems+1)
	wantNodes(t, fields(i32(1), api.MaxItems), api.MaxItems+1)
	want(t, op("$add", most...), i32(api.MaxItems))
	wantNodes(t, literal(list(most...)), api.MaxItems+2)
	wantNodes(t, literal(fields(missing, api.MaxItems)), api.MaxItems+2)
	wantNoExpr(t, list(more...), api.ErrLong)
	wantNoExpr(t, fields(i32(1), api.MaxItems+1), api.ErrLong)
	wantNoExpr(t, op("$add", more...), api.ErrLong)
	wantNoExpr(t, op("$concat", more...), api.ErrLong)
	wantNoExpr(t, literal(list(more...)), api.ErrLong)
	wantNoExpr(t, literal(fields(missing, api.MaxItems+1)), api.ErrLong)
	wantNoExpr(t, list(i32(1), list(more...)), api.ErrLong)
	for kind := -1; kind <= api.Greatest+1; kind++ {
		wantNoExpr(t, api.Value{Kind: kind, L: more}, api.ErrLong)
		wantNoExpr(t, api.Value{Kind: kind, F: fields(null, api.MaxItems+1).F}, api.ErrLong)
		wantNoExpr(t, literal(list(api.Value{Kind: kind, L: more})), api.ErrLong)
		wantNodes(t, literal(api.Value{Kind: kind, L: most, F: fields(null, 100).F}), api.MaxItems+102)
	}
}

// TestMostDepth has Docs and Lists just so deep, and one deeper; what is neither may lie one deeper.
func TestMostDepth(t *testing.T) {
	for _, wrap := range []func(api.Value) api.Value{inList, inDoc} {
		for _, v := range row(i32(1), text("$a"), text("x")) {
			wantNodes(t, deep(v, api.MaxDepth, wrap), api.MaxDepth+1)
			wantNoExpr(t, deep(v, api.MaxDepth+1, wrap), api.ErrDeep)
			wantNoExpr(t, deep(v, 300, wrap), api.ErrDeep)
		}
		for _, v := range row(list(), doc(), op("$add"), is("$abs", i32(1))) {
			inner := nodesOf(v) - 1
			if len(v.F) > 0 && v.F[0].V.Kind == api.List {
				wantNodes(t, deep(v, api.MaxDepth-2, wrap), api.MaxDepth+inner-1)
				wantNoExpr(t, deep(v, api.MaxDepth-1, wrap), api.ErrDeep)
				continue
			}
			wantNodes(t, deep(v, api.MaxDepth-1, wrap), api.MaxDepth+inner)
			wantNoExpr(t, deep(v, api.MaxDepth, wrap), api.ErrDeep)
		}
		wantNodes(t, literal(deep(missing, api.MaxDepth-1, wrap)), api.MaxDepth+1)
		wantNoExpr(t, literal(deep(missing, api.MaxDepth, wrap)), api.ErrDeep)
		wantNoExpr(t, list(i32(1), deep(i32(1), api.MaxDepth, wrap), i32(1)), api.ErrDeep)
	}
	chain := deep(i32(-3), api.MaxDepth, func(v api.Value) api.Value { return is("$abs", v) })
	wantNodes(t, chain, api.MaxDepth+1)
	want(t, chain, i32(3))
	wantNoExpr(t, is("$abs", chain), api.ErrDeep)
}

// TestMostDepthOfWhateverKind has what is within a value be one deeper, also where its kind has nothing within.
func TestMostDepthOfWhateverKind(t *testing.T) {
	for _, kind := range []int{api.Null, api.Int32, api.Text, api.Bytes, api.Greatest} {
		byItems := func(v api.Value) api.Value { return api.Value{Kind: kind, L: row(v)} }
		byFields := func(v api.Value) api.Value { return api.Value{Kind: kind, F: is("a", v).F} }
		for _, wrap := range []func(api.Value) api.Value{byItems, byFields} {
			for _, v := range row(list(), doc()) {
				wantNodes(t, deep(v, api.MaxDepth-1, wrap), api.MaxDepth)
				wantNoExpr(t, deep(v, api.MaxDepth, wrap), api.ErrDeep)
				wantNoExpr(t, list(deep(v, api.MaxDepth-1, wrap)), api.ErrDeep)
			}
			wantNodes(t, deep(i32(1), api.MaxNodes-1, wrap), api.MaxNodes)
			wantNoExpr(t, deep(i32(1), api.MaxNodes, wrap), api.ErrLong)
		}
	}
	beneath := api.Value{Kind: api.List, F: is("a", deep(list(), api.MaxDepth-2, inList)).F}
	wantNodes(t, beneath, api.MaxDepth)
	beneath.F[0].V = list(beneath.F[0].V)
	wantNoExpr(t, beneath, api.ErrDeep)
}

// TestLimitsComeAhead has ErrLong ahead of ErrDeep, wherever they stand, and both ahead of all else.
func TestLimitsComeAhead(t *testing.T) {
	long, tooDeep := list(repeat(null, api.MaxItems+1)...), deep(null, api.MaxDepth+1, inList)
	wantNoExpr(t, list(long, tooDeep), api.ErrLong)
	wantNoExpr(t, list(tooDeep, long), api.ErrLong)
	wantNoExpr(t, list(tooDeep, list(repeat(null, 200)...), list(repeat(null, 200)...)), api.ErrLong)
	wantNoExpr(t, deep(null, api.MaxNodes, inList), api.ErrLong)
	wantNoExpr(t, deep(null, api.MaxNodes-1, inList), api.ErrDeep)
	wantNoExpr(t, deep(long, api.MaxDepth, inList), api.ErrLong)
	for _, bad := range row(text("$"), op("$none"), missing, none(-1), op("$eq", i32(1)), docs(is("$a", null), is("b", null))) {
		wantNoExpr(t, list(bad, long), api.ErrLong)
		wantNoExpr(t, list(bad, tooDeep), api.ErrDeep)
		wantNoExpr(t, docs(is("a", bad), is("b", literal(long))), api.ErrLong)
		wantNoExpr(t, docs(is("a", bad), is("b", literal(tooDeep))), api.ErrDeep)
		wantNoExpr(t, is("$none", list(bad, tooDeep)), api.ErrDeep)
		wantNoExpr(t, docs(is("$none", long), is("b", bad)), api.ErrLong)
	}
	wantNoExpr(t, api.Value{Kind: -1, L: row(tooDeep)}, api.ErrDeep)
	wantNoExpr(t, api.Value{Kind: api.Missing, L: row(long)}, api.ErrLong)
}

// TestWithinItself has Lists and documents that lie within themselves, and one that lies in many places: reading ends.
func TestWithinItself(t *testing.T) {
	l := row(null, null)
	for i := range l {
		l[i] = list(l...)
	}
	wantNoExpr(t, list(l...), api.ErrLong)
	f := []api.Field{{Name: "a"}}
	f[0].V = doc(f...)
	wantNoExpr(t, doc(f...), api.ErrLong)
	many := i32(1)
	for range 30 {
		many = list(many, many)
	}
	wantNoExpr(t, many, api.ErrLong)
	wantNoExpr(t, literal(many), api.ErrLong)
}
