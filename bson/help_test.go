package bson_test

import (
	"bytes"
	"encoding/binary"
	"strconv"
	"strings"
	"testing"

	"aqueduct/api"
	"aqueduct/bson"
)

// The values, short.
var (
	least    = api.Value{Kind: api.Least}
	null     = api.Value{Kind: api.Null}
	greatest = api.Value{Kind: api.Greatest}
)

func i32(n int64) api.Value              { return api.Value{Kind: api.Int32, N: n} }
func i64(n int64) api.Value              { return api.Value{Kind: api.Int64, N: n} }
func date(n int64) api.Value             { return api.Value{Kind: api.Date, N: n} }
func truth(n int64) api.Value            { return api.Value{Kind: api.Bool, N: n} }
func text(s string) api.Value            { return api.Value{Kind: api.Text, S: s} }
func raw(b ...byte) api.Value            { return api.Value{Kind: api.Bytes, B: b} }
func id(b ...byte) api.Value             { return api.Value{Kind: api.Id, B: b} }
func list(l ...api.Value) api.Value      { return api.Value{Kind: api.List, L: l} }
func doc(l ...api.Field) api.Value       { return api.Value{Kind: api.Doc, F: l} }
func one(v api.Value) api.Value          { return doc(is("a", v)) }
func is(s string, v api.Value) api.Field { return api.Field{Name: s, V: v} }

// The bytes, laid out piece by piece.

func le(n int64, size int) []byte {
	return binary.LittleEndian.AppendUint64(nil, uint64(n))[:size]
}

func join(parts ...[]byte) []byte { return bytes.Join(parts, nil) }

// sized is a document of those fields that says the length.
func sized(n int, fields ...[]byte) []byte { return join(le(int64(n), 4), join(fields...), []byte{0}) }

// docOf is a document of those fields.
func docOf(fields ...[]byte) []byte { return sized(5+len(join(fields...)), fields...) }

// at is a field.
func at(code byte, name string, value ...[]byte) []byte {
	return join([]byte{code}, []byte(name), []byte{0}, join(value...))
}

func textOf(s string) []byte { return join(le(int64(len(s)+1), 4), []byte(s), []byte{0}) }

func bytesOf(b ...byte) []byte { return join(le(int64(len(b)), 4), []byte{0}, b) }

// listOf is a List's document: items are fields without a name.
func listOf(items ...func(string) []byte) []byte {
	var l [][]byte
	for i, item := range items {
		l = append(l, item(strconv.Itoa(i)))
	}
	return docOf(l...)
}

// item is a List's item.
func item(code byte, value ...[]byte) func(string) []byte {
	return func(name string) []byte { return at(code, name, value...) }
}

// sample is a value and its bytes.
type sample struct {
	code  byte
	v     api.Value
	bytes []byte
}

// samples has every kind, with its edges; the bytes are written out.
func samples() []sample {
	twelve := []byte{0, 1, 2, 3, 4, 5, 6, 7, 8, 9, 254, 255}
	return []sample{
		{0x02, text(""), []byte{1, 0, 0, 0, 0}},
		{0x02, text("abc"), []byte{4, 0, 0, 0, 'a', 'b', 'c', 0}},
		{0x02, text("a\x00b\x00"), []byte{5, 0, 0, 0, 'a', 0, 'b', 0, 0}},
		{0x02, text("\u00e4\u20ac\U0001F600\uFFFD"), []byte{13, 0, 0, 0, 0xc3, 0xa4, 0xe2, 0x82, 0xac, 0xf0, 0x9f, 0x98, 0x80, 0xef, 0xbf, 0xbd, 0}},
		{0x02, text(strings.Repeat("x", 300)), join([]byte{45, 1, 0, 0}, bytes.Repeat([]byte{'x'}, 300), []byte{0})},
		{0x03, doc(), []byte{5, 0, 0, 0, 0}},
		{0x03, doc(is("", null)), []byte{7, 0, 0, 0, 0x0a, 0, 0}},
		{0x03, doc(is("b", doc()), is("a", truth(1))), []byte{17, 0, 0, 0, 3, 'b', 0, 5, 0, 0, 0, 0, 8, 'a', 0, 1, 0}},
		{0x04, list(), []byte{5, 0, 0, 0, 0}},
		{0x04, list(null), []byte{8, 0, 0, 0, 0x0a, '0', 0, 0}},
		{0x04, list(truth(0), list(), doc()), []byte{25, 0, 0, 0, 8, '0', 0, 0, 4, '1', 0, 5, 0, 0, 0, 0, 3, '2', 0, 5, 0, 0, 0, 0, 0}},
		{0x05, raw(), []byte{0, 0, 0, 0, 0}},
		{0x05, raw(9), []byte{1, 0, 0, 0, 0, 9}},
		{0x05, raw(0, 255, 0), []byte{3, 0, 0, 0, 0, 0, 255, 0}},
		{0x05, raw(make([]byte, 259)...), join([]byte{3, 1, 0, 0, 0}, make([]byte, 259))},
		{0x07, id(twelve...), twelve},
		{0x07, id(make([]byte, 12)...), make([]byte, 12)},
		{0x08, truth(0), []byte{0}},
		{0x08, truth(1), []byte{1}},
		{0x09, date(0), make([]byte, 8)},
		{0x09, date(-2), []byte{254, 255, 255, 255, 255, 255, 255, 255}},
		{0x09, date(0x0102030405060708), []byte{8, 7, 6, 5, 4, 3, 2, 1}},
		{0x09, date(1<<63 - 1), []byte{255, 255, 255, 255, 255, 255, 255, 127}},
		{0x0a, null, nil},
		{0x10, i32(0), make([]byte, 4)},
		{0x10, i32(1), []byte{1, 0, 0, 0}},
		{0x10, i32(-1), []byte{255, 255, 255, 255}},
		{0x10, i32(0x01020304), []byte{4, 3, 2, 1}},
		{0x10, i32(1<<31 - 1), []byte{255, 255, 255, 127}},
		{0x10, i32(-1 << 31), []byte{0, 0, 0, 128}},
		{0x12, i64(0), make([]byte, 8)},
		{0x12, i64(1), []byte{1, 0, 0, 0, 0, 0, 0, 0}},
		{0x12, i64(-1), bytes.Repeat([]byte{255}, 8)},
		{0x12, i64(1 << 31), []byte{0, 0, 0, 128, 0, 0, 0, 0}},
		{0x12, i64(-1 << 63), []byte{0, 0, 0, 0, 0, 0, 0, 128}},
		{0x12, i64(0x0102030405060708), []byte{8, 7, 6, 5, 4, 3, 2, 1}},
		{0xff, least, nil},
		{0x7f, greatest, nil},
	}
}

// whole is a document with every sample, alone, in a document and in a List, and its bytes.
func whole() (api.Value, []byte) {
	var v, inner, l api.Value
	v.Kind, inner.Kind, l.Kind = api.Doc, api.Doc, api.List
	var b, within [][]byte
	var items []func(string) []byte
	for i, s := range samples() {
		name := "n" + strconv.Itoa(i)
		v.F = append(v.F, is(name, s.v))
		inner.F = append(inner.F, is(name, s.v))
		l.L = append(l.L, s.v)
		b = append(b, at(s.code, name, s.bytes))
		within = append(within, at(s.code, name, s.bytes))
		items = append(items, item(s.code, s.bytes))
	}
	v.F = append(v.F, is("in", inner), is("l", l))
	b = append(b, at(0x03, "in", docOf(within...)), at(0x04, "l", listOf(items...)))
	return v, docOf(b...)
}

// nested is a document with so many documents and Lists in it, one in another, the outer one counted; which of them are Lists is told by their depth.
func nested(depth int, isList func(int) bool) (api.Value, []byte) {
	v, b := doc(), docOf()
	if isList(depth) {
		v = list()
	}
	for d := depth - 1; d >= 1; d-- {
		code := byte(0x03)
		if isList(d + 1) {
			code = 0x04
		}
		if isList(d) {
			v, b = list(v), listOf(item(code, b))
		} else {
			v, b = one(v), docOf(at(code, "a", b))
		}
	}
	return v, b
}

// alike holds two values against each other, kind by kind; lists nil or empty are alike.
func alike(a, b api.Value) bool {
	if a.Kind != b.Kind || a.N != b.N || a.S != b.S || string(a.B) != string(b.B) || len(a.F) != len(b.F) || len(a.L) != len(b.L) {
		return false
	}
	for i := range a.F {
		if a.F[i].Name != b.F[i].Name || !alike(a.F[i].V, b.F[i].V) {
			return false
		}
	}
	for i := range a.L {
		if !alike(a.L[i], b.L[i]) {
			return false
		}
	}
	return true
}

func wantAlike(t *testing.T, what string, got, want api.Value) {
	t.Helper()
	if !alike(got, want) {
		t.Errorf("%s: %.300v, want %.300v", what, got, want)
	}
}

// wantBoth holds that the value and the bytes are each other's.
func wantBoth(t *testing.T, what string, v api.Value, b []byte) {
	t.Helper()
	ahead := bytes.Clone(b)
	got, e := bson.Decode(b)
	if e != api.OK || !alike(got, v) {
		t.Errorf("%s: Decode: %.300v, %v, want %.300v", what, got, e, v)
	}
	c, e := bson.Encode(v)
	if e != api.OK || !bytes.Equal(c, b) {
		t.Errorf("%s: Encode: %.300v, %v, want %.300v", what, c, e, b)
	}
	if n := bson.Size(v); n != len(b) || !bson.May(v) {
		t.Errorf("%s: Size %d, May %v, want %d", what, n, bson.May(v), len(b))
	}
	if !bytes.Equal(b, ahead) {
		t.Errorf("%s: the bytes were changed", what)
	}
}

// wantNoDoc holds that the bytes are none, by that error.
func wantNoDoc(t *testing.T, what string, b []byte, want api.Errno) {
	t.Helper()
	v, e := bson.Decode(b)
	if e != want || !alike(v, api.Value{}) {
		t.Errorf("%s: Decode: %.300v, %v, want %v; of %.300v", what, v, e, want, b)
	}
}

// wantMayNot holds that no bytes are made of the value.
func wantMayNot(t *testing.T, what string, v api.Value) {
	t.Helper()
	b, e := bson.Encode(v)
	if e != api.ErrArg || len(b) != 0 || bson.May(v) || bson.Size(v) != 0 {
		t.Errorf("%s: Encode: %d bytes, %v, May %v, Size %d", what, len(b), e, bson.May(v), bson.Size(v))
	}
}
