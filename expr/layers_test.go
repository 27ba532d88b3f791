package expr_test

import (
	"testing"

	"aqueduct/api"
	"aqueduct/bson"
	"aqueduct/expr"
)

// What the chapter does not list, and other layers ask.

// TestMeasure has what Parse says of Nodes, ErrLong and ErrDeep, also of what is no expression.
func TestMeasure(t *testing.T) {
	long, tooDeep := list(repeat(null, api.MaxItems+1)...), deep(null, api.MaxDepth+1, inList)
	for _, x := range []struct {
		v    api.Value
		want int
		e    api.Errno
	}{
		{null, 1, api.OK}, {missing, 1, api.OK}, {none(13), 1, api.OK}, {is("$none", list(missing, text("$"))), 4, api.OK}, {op("$add", text("$a"), i32(3)), 4, api.OK},
		{list(repeat(null, api.MaxItems)...), api.MaxItems + 1, api.OK}, {deep(null, api.MaxDepth, inDoc), api.MaxDepth + 1, api.OK},
		{long, 0, api.ErrLong}, {tooDeep, 0, api.ErrDeep}, {list(tooDeep, long), 0, api.ErrLong}, {is("$none", tooDeep), 0, api.ErrDeep}, {none(13), 1, api.OK},
	} {
		same := bson.Copy(x.v)
		if n, e := expr.Measure(x.v); n != x.want || e != x.e || !bson.Same(x.v, same) {
			t.Errorf("Measure of %s: %d, %v, want %d, %v", show(same), n, e, x.want, x.e)
		}
	}
}

// TestTrue has what $not turns round.
func TestTrue(t *testing.T) {
	for _, v := range append(append(plain(), falses()...), list(), doc(), list(null), none(-1), none(13)) {
		x := parsed(t, op("$not", literal(v)))
		if turned, e := x.Eval(doc()); e != api.OK || expr.True(v) != (turned.N == 0) || expr.True(v) != isTrue(v) {
			t.Errorf("True of %s: %v", show(v), expr.True(v))
		}
	}
}

func TestNameOf(t *testing.T) {
	for kind := -2; kind < 20; kind++ {
		if got := expr.NameOf(kind); got != typeName(kind) {
			t.Errorf("NameOf %d: %q", kind, got)
		}
	}
	for _, kind := range kinds() {
		if got := expr.NameOf(kind); got != "" {
			t.Errorf("NameOf %d: %q", kind, got)
		}
	}
}
