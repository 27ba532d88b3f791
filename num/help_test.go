package num_test

import (
	"math"
	"reflect"
	"strconv"
	"testing"

	"aqueduct/api"
	"aqueduct/num"
)

// The values, short.
var (
	missing = api.Value{}
	null    = api.Value{Kind: api.Null}
)

func i32(n int64) api.Value { return api.Value{Kind: api.Int32, N: n} }
func i64(n int64) api.Value { return api.Value{Kind: api.Int64, N: n} }

// The borders of 32 and of 64 bits.
const (
	low32, high32 = math.MinInt32, math.MaxInt32
	low64, high64 = math.MinInt64, math.MaxInt64
)

// strangers are values that are no numbers, whatever they have beside their kind.
func strangers() []api.Value {
	l := []api.Value{
		{Kind: api.Least}, {Kind: api.Greatest}, {Kind: api.Greatest, N: 1},
		{Kind: api.Bool}, {Kind: api.Bool, N: 1}, {Kind: api.Date}, {Kind: api.Date, N: 5}, {Kind: api.Date, N: low64},
		{Kind: api.Text}, {Kind: api.Text, S: "1"}, {Kind: api.Text, S: "1", N: 1},
		{Kind: api.Doc}, {Kind: api.Doc, F: []api.Field{{Name: "a", V: i32(1)}}},
		{Kind: api.List}, {Kind: api.List, L: []api.Value{i32(1)}}, {Kind: api.List, L: []api.Value{null}},
		{Kind: api.Bytes, B: []byte{1}}, {Kind: api.Id, B: make([]byte, 12)},
	}
	for _, kind := range []int{-1, 13, 256 + api.Int32, math.MinInt, math.MaxInt} {
		l = append(l, api.Value{Kind: kind}, api.Value{Kind: kind, N: 1})
	}
	return l
}

// nothings are Null and Missing, whatever they have beside their kind.
func nothings() []api.Value {
	return []api.Value{null, missing, {Kind: api.Null, N: 7, S: "a", L: []api.Value{i32(1)}}, {Kind: api.Missing, N: 7, B: []byte{1}}}
}

// function is the one form that all with two arguments have.
type function func(a, b api.Value) (api.Value, api.Errno)

// named is a function that is handed on.
type named struct {
	name string
	do   function
}

func functions() []named {
	return []named{{"Add", num.Add}, {"Sub", num.Sub}, {"Mul", num.Mul}, {"Div", num.Div}, {"Mod", num.Mod}}
}

func show(v api.Value) string {
	n := strconv.FormatInt(v.N, 10)
	switch v.Kind {
	case api.Missing:
		return "Missing"
	case api.Null:
		return "Null"
	case api.Int32:
		return "Int32 " + n
	case api.Int64:
		return "Int64 " + n
	}
	return "kind " + strconv.Itoa(v.Kind) + " " + n
}

// want has the number, the kind and the error, and nothing beside them.
func (f named) want(t *testing.T, a, b, v api.Value, e api.Errno) {
	t.Helper()
	wantValue(t, f.name+" of "+show(a)+", "+show(b), answerOf(f.do(a, b)), answer{v, e})
}

func wantAbs(t *testing.T, a, v api.Value, e api.Errno) {
	t.Helper()
	wantValue(t, "Abs of "+show(a), answerOf(num.Abs(a)), answer{v, e})
}

type answer struct {
	v api.Value
	e api.Errno
}

func answerOf(v api.Value, e api.Errno) answer { return answer{v, e} }

func wantValue(t *testing.T, what string, got, want answer) {
	t.Helper()
	if !reflect.DeepEqual(got, want) {
		t.Errorf("%s: %s, %v, want %s, %v", what, show(got.v), got.e, show(want.v), want.e)
	}
}

// endIfFailed keeps a test of very many from telling very many faults.
func endIfFailed(t *testing.T) {
	t.Helper()
	if t.Failed() {
		t.FailNow()
	}
}
