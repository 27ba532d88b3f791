package num_test

import (
	"reflect"
	"testing"

	"aqueduct/api"
	"aqueduct/num"
)

// some are numbers of every sort, 0 in both kinds among them.
func some() []api.Value {
	return []api.Value{i32(0), i64(0), i32(1), i64(1), i32(-1), i64(-1), i32(low32), i32(high32), i64(low64), i64(high64)}
}

func TestDivisionByNought(t *testing.T) {
	for _, a := range some() {
		for _, b := range []api.Value{i32(0), i64(0)} {
			div.want(t, a, b, missing, api.ErrZero)
			mod.want(t, a, b, missing, api.ErrZero)
		}
	}
}

// TestNothing has Null come ahead of every error, in either place.
func TestNothing(t *testing.T) {
	for _, nothing := range nothings() {
		for _, other := range append(append(some(), strangers()...), nothings()...) {
			for _, f := range functions() {
				f.want(t, nothing, other, null, api.OK)
				f.want(t, other, nothing, null, api.OK)
			}
		}
		wantAbs(t, nothing, null, api.OK)
	}
}

// TestNoNumbers has ErrType in either place, ahead of ErrZero.
func TestNoNumbers(t *testing.T) {
	for _, stranger := range strangers() {
		for _, other := range append(some(), strangers()...) {
			for _, f := range functions() {
				f.want(t, stranger, other, missing, api.ErrType)
				f.want(t, other, stranger, missing, api.ErrType)
			}
		}
		wantAbs(t, stranger, missing, api.ErrType)
	}
}

// TestNumbersWithMore has what stands beside a number matter nothing.
func TestNumbersWithMore(t *testing.T) {
	more := api.Value{Kind: api.Int32, N: -6, S: "a", B: []byte{1}, F: []api.Field{{Name: "b"}}, L: []api.Value{null}}
	ahead := api.Value{Kind: api.Int32, N: -6, S: "a", B: []byte{1}, F: []api.Field{{Name: "b"}}, L: []api.Value{null}}
	for i, n := range []int64{-12, 0, 36, 1, 0} {
		functions()[i].want(t, more, more, i32(n), api.OK)
	}
	wantAbs(t, more, i32(6), api.OK)
	if !reflect.DeepEqual(more, ahead) {
		t.Errorf("changed: %v", more)
	}
}

// TestInt32sThatMayNotBe has an Int32 beyond 32 bits go by its number.
func TestInt32sThatMayNotBe(t *testing.T) {
	far := i32(1 << 40)
	add.want(t, far, i32(1), i64(1<<40+1), api.OK)
	sub.want(t, far, i32(1<<40-5), i32(5), api.OK)
	mul.want(t, far, far, missing, api.ErrRange)
	div.want(t, far, i32(1<<20), i32(1<<20), api.OK)
	mod.want(t, far, i32(1<<20+1), i32(1), api.OK)
	add.want(t, i32(high64), i32(1), missing, api.ErrRange)
	div.want(t, i32(low64), i32(-1), missing, api.ErrRange)
	wantAbs(t, i32(low64), missing, api.ErrRange)
	wantAbs(t, i32(-1<<40), i64(1<<40), api.OK)
}

// TestErrorsAnswerNoValue has the zero value beside each error, as R2 asks.
func TestErrorsAnswerNoValue(t *testing.T) {
	for _, f := range functions() {
		for _, a := range append(append(some(), strangers()...), nothings()...) {
			for _, b := range append(append(some(), strangers()...), nothings()...) {
				if v, e := f.do(a, b); e != api.OK && !reflect.DeepEqual(v, api.Value{}) {
					t.Errorf("%s of %s, %s: %s beside %v", f.name, show(a), show(b), show(v), e)
				}
			}
		}
	}
	if v, e := num.Abs(i64(low64)); e != api.ErrRange || !reflect.DeepEqual(v, api.Value{}) {
		t.Errorf("Abs of the least: %s, %v", show(v), e)
	}
}
