package path_test

import (
	"bytes"
	"slices"
	"strings"
	"testing"

	"aqueduct/api"
	"aqueduct/bson"
	"aqueduct/path"
)

// The values, short.
var (
	missing = api.Value{}
	null    = api.Value{Kind: api.Null}
)

func i32(n int64) api.Value         { return api.Value{Kind: api.Int32, N: n} }
func text(s string) api.Value       { return api.Value{Kind: api.Text, S: s} }
func list(l ...api.Value) api.Value { return api.Value{Kind: api.List, L: l} }

// is is a Doc of one field.
func is(name string, v api.Value) api.Value { return doc(api.Field{Name: name, V: v}) }

func doc(l ...api.Field) api.Value { return api.Value{Kind: api.Doc, F: l} }

// docs joins the fields of several documents.
func docs(l ...api.Value) api.Value {
	all := doc()
	for _, v := range l {
		all.F = append(all.F, v.F...)
	}
	return all
}

// plain are values that are neither Doc nor List, with some that may not be.
func plain() []api.Value {
	return []api.Value{
		{Kind: api.Least}, null, i32(0), i32(7), {Kind: api.Int64, N: 1 << 40}, text(""), text("a"), text("a.b"),
		{Kind: api.Bytes}, {Kind: api.Bytes, B: []byte("a")}, {Kind: api.Id, B: []byte("abcdefghijkl")},
		{Kind: api.Bool}, {Kind: api.Bool, N: 1}, {Kind: api.Date, N: -5}, {Kind: api.Greatest},
		{Kind: -1}, {Kind: 13}, {Kind: 1<<63 - 1}, i32(1 << 40), text("\xff"),
	}
}

// posing are values that are neither Doc nor List, and have fields and items yet.
func posing() []api.Value {
	var l []api.Value
	for _, v := range append(plain(), missing) {
		v.F, v.L = is("a", i32(1)).F, []api.Value{is("a", i32(2))}
		l = append(l, v)
	}
	return l
}

// names are those of a path, split at the points: "" has none.
func names(s string) []string {
	if s == "" {
		return nil
	}
	return strings.Split(s, ".")
}

func wantReach(t *testing.T, what string, v api.Value, p []string, want api.Value) {
	t.Helper()
	same, ahead := bson.Copy(v), slices.Clone(p)
	if got := path.Reach(v, p); !bson.Same(got, want) {
		t.Errorf("%s: Reach of %q: %.300v, want %.300v", what, p, got, want)
	}
	if !bson.Same(v, same) || !slices.Equal(p, ahead) {
		t.Errorf("%s: Reach of %q has changed what was handed in", what, p)
	}
}

func wantAll(t *testing.T, what string, v api.Value, p []string, want ...api.Value) {
	t.Helper()
	same, ahead := bson.Copy(v), slices.Clone(p)
	if got := path.All(v, p); !slices.EqualFunc(got, want, bson.Same) {
		t.Errorf("%s: All of %q: %.300v, want %.300v", what, p, got, want)
	}
	if !bson.Same(v, same) || !slices.Equal(p, ahead) {
		t.Errorf("%s: All of %q has changed what was handed in", what, p)
	}
}

// spoil changes all that hangs on a value, spare room too.
func spoil(v api.Value) {
	for _, f := range v.F {
		spoil(f.V)
	}
	for _, x := range v.L {
		spoil(x)
	}
	copy(v.B[:cap(v.B)], bytes.Repeat([]byte{0x55}, cap(v.B)))
	for i := range v.F[:cap(v.F)] {
		v.F[:cap(v.F)][i] = api.Field{Name: "spoilt", V: i32(77)}
	}
	for i := range v.L[:cap(v.L)] {
		v.L[:cap(v.L)][i] = i32(77)
	}
}
