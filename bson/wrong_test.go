package bson_test

import (
	"bytes"
	"strconv"
	"strings"
	"testing"

	"aqueduct/api"
	"aqueduct/bson"
)

// TestCutAtEveryPlace has a document's bytes cut: the length that they say is not theirs then.
func TestCutAtEveryPlace(t *testing.T) {
	_, b := whole()
	for n := range b {
		want := api.ErrForm
		if n < 4 {
			want = api.ErrShort
		}
		wantNoDoc(t, "cut to "+strconv.Itoa(n), b[:n:n], want)
	}
	wantNoDoc(t, "nil", nil, api.ErrShort)
	wantNoDoc(t, "no bytes", []byte{}, api.ErrShort)
}

// TestCutWithItsLength has the bytes cut, and that length said: they end where more must be.
func TestCutWithItsLength(t *testing.T) {
	_, b := whole()
	for n := 5; n < len(b); n++ {
		wantNoDoc(t, "cut to "+strconv.Itoa(n), join(le(int64(n), 4), b[4:n]), api.ErrShort)
	}
	wantNoDoc(t, "cut to 4", le(4, 4), api.ErrForm)
}

func TestBytesBehind(t *testing.T) {
	_, b := whole()
	for _, c := range []byte{0, 1, 5, 0x0a, 0xff} {
		wantNoDoc(t, "one behind", join(b, []byte{c}), api.ErrForm)
		wantNoDoc(t, "one behind, counted", join(le(int64(len(b)+1), 4), b[4:], []byte{c}), api.ErrForm)
		wantNoDoc(t, "one behind an empty one", join(docOf(), []byte{c}), api.ErrForm)
	}
	wantNoDoc(t, "two documents", join(docOf(), docOf()), api.ErrForm)
}

func TestAnotherLength(t *testing.T) {
	_, b := whole()
	others := []int64{-1 << 31, -1, 0, 4, 5, 6, 1<<31 - 1, 1<<32 - 1, int64(len(b)) + 1<<31}
	for d := int64(1); d < 40; d++ {
		others = append(others, int64(len(b))+d, int64(len(b))-d)
	}
	for shift := range 32 {
		others = append(others, int64(len(b))^1<<shift)
	}
	for _, n := range others {
		wantNoDoc(t, "another outer length", join(le(n, 4), b[4:]), api.ErrForm)
	}
	for _, code := range []byte{3, 4} {
		for _, body := range [][]byte{nil, at(0x0a, "0"), at(0x10, "0", le(5, 4))} {
			for _, n := range append(others, 7, 9, 11, 13, 15) {
				if n != int64(5+len(body)) {
					c := docOf(at(code, "a", le(n, 4), body, []byte{0}), at(0x0a, "z"))
					wantNoDoc(t, "another inner length "+strconv.FormatInt(n, 10), c, api.ErrForm)
				}
			}
		}
	}
}

// TestInnerLengthIsAskedAtItsEnd has a length that is not that of its fields, and something else wrong in or behind it.
func TestInnerLengthIsAskedAtItsEnd(t *testing.T) {
	for _, n := range []int{5, 6, 7, 9, 11, 100, api.MaxBytes, 1<<31 - 1} {
		for _, code := range []byte{3, 4} {
			wantNoDoc(t, "wrong in it", docOf(at(code, "d", sized(n, at(0x55, "0")))), api.ErrKind)
			wantNoDoc(t, "wrong in it", docOf(at(code, "d", sized(n, at(0x0a, "\xff")))), api.ErrUtf8)
			wantNoDoc(t, "wrong behind it", docOf(at(code, "d", sized(n, at(0x0a, "0"), at(0x0a, "1"), at(0x0a, "2"))), at(0x55, "z")), api.ErrForm)
		}
	}
	for _, n := range []int64{5, 8, 9, 100} {
		b := at(3, "d", le(n, 4), at(0x0a, "0"))
		wantNoDoc(t, "the bytes end in it", join(le(int64(4+len(b)), 4), b), api.ErrShort)
	}
}

// TestNoZeroAtAnEnd has another byte where a document ends: it is the kind of one field more.
func TestNoZeroAtAnEnd(t *testing.T) {
	b := docOf(at(0x10, "a", le(5, 4)))
	for c := 1; c < 256; c++ {
		b[len(b)-1] = byte(c)
		want := api.ErrKind
		if strings.IndexByte("\x01\x02\x03\x04\x05\x07\x08\x09\x0a\x10\x12\x13\x7f\xff", byte(c)) >= 0 {
			want = api.ErrShort
		}
		wantNoDoc(t, "no 0 at the end", b, want)
		wantNoDoc(t, "no 0 at the end of a text", docOf(at(2, "a", le(3, 4), []byte{'x', 'y', byte(c)})), api.ErrForm)
		wantNoDoc(t, "no 0 at the end of an empty text", docOf(at(2, "a", le(1, 4), []byte{byte(c)})), api.ErrForm)
	}
}

// TestFloats has doubles and decimals, whole ones and cut ones.
func TestFloats(t *testing.T) {
	for code, size := range map[byte]int{0x01: 8, 0x13: 16} {
		for _, c := range []byte{0, 1, 0x40, 255} {
			value := bytes.Repeat([]byte{c}, size)
			wantNoDoc(t, "a float", docOf(at(code, "a", value)), api.ErrFloat)
			wantNoDoc(t, "a float in a List", docOf(at(4, "l", listOf(item(0x0a), item(code, value)))), api.ErrFloat)
			wantNoDoc(t, "a float ahead of wrong ones", docOf(at(code, "a", value), at(0x55, "a"), at(8, "b", []byte{9})), api.ErrFloat)
			for n := range size {
				b := at(code, "a", value[:n])
				wantNoDoc(t, "a float that is cut", join(le(int64(4+len(b)), 4), b), api.ErrShort)
			}
			b := at(code, "a", value)
			wantNoDoc(t, "a float at the bytes' end", join(le(int64(4+len(b)), 4), b), api.ErrFloat)
		}
	}
}

// TestWhichComesFirst has fields with several things wrong: each row one thing less.
func TestWhichComesFirst(t *testing.T) {
	long := strings.Repeat("n", api.MaxName+1)
	last := func(b []byte) []byte { // a document that ends with b, without a 0
		return join(le(int64(4+len(b)), 4), b)
	}
	ahead := at(0x0a, "x")
	_, deep := nested(api.MaxDepth, func(int) bool { return false })
	for _, x := range []struct {
		what string
		b    []byte
		want api.Errno
	}{
		{"a kind, and no name behind it", last([]byte{0x20}), api.ErrKind},
		{"a kind, a name that is no UTF-8", last([]byte{0x06, 0xff}), api.ErrKind},
		{"no name", last([]byte{0x10}), api.ErrShort},
		{"a name that is no UTF-8 and has no end", last([]byte{0x10, 0xff, 'a'}), api.ErrShort},
		{"a name that is too long and has no end", last(append([]byte{0x10}, long...)), api.ErrShort},
		{"a name that is no UTF-8, too long", last(at(0x10, "\xff"+long)), api.ErrUtf8},
		{"a name that is no UTF-8 at its end, too long", last(at(0x10, long+"\xff")), api.ErrUtf8},
		{"a name that is too long, twice, no value", last(join(at(0x0a, "x"), at(0x10, long))), api.ErrName},
		{"a List's name, no UTF-8", docOf(at(4, "l", docOf(at(0x0a, "0"), at(0x0a, "\xff")))), api.ErrUtf8},
		{"a List's name, too long", docOf(at(4, "l", docOf(at(0x0a, "0"), at(0x0a, long)))), api.ErrName},
		{"a List's name, twice", docOf(at(4, "l", docOf(at(0x0a, "0"), at(0x0a, "0")))), api.ErrForm},
		{"a List's name, and no value", last(at(4, "l", le(50, 4), at(0x10, "1"))), api.ErrForm},
		{"a name twice, and no value", last(join(ahead, at(0x10, "x"))), api.ErrTwice},
		{"a name twice, a Bool that is neither", docOf(ahead, at(8, "x", []byte{2})), api.ErrTwice},
		{"a name twice, a float", docOf(ahead, at(1, "x", le(0, 8))), api.ErrTwice},
		{"a name twice, too deep", docOf(ahead, at(3, "x", deep)), api.ErrTwice},
		{"too deep, no length", deepest(3), api.ErrDeep},
		{"too deep, half a length", deepest(3, []byte{1, 0}), api.ErrDeep},
		{"too deep, a length below 5", deepest(3, le(4, 4)), api.ErrDeep},
		{"too deep, a List", deepest(4, le(4, 4)), api.ErrDeep},
		{"too deep, wrong within", deepest(3, docOf(at(0x55, "a"))), api.ErrDeep},
		{"a name ahead of too deep", deepest(0x55), api.ErrKind},
		{"a document without a length", last(at(3, "d", []byte{5, 0, 0})), api.ErrShort},
		{"a document's length, nothing behind", last(at(3, "d", le(4, 4))), api.ErrForm},
		{"a document's length that may be, nothing behind", last(at(3, "d", le(5, 4))), api.ErrShort},
		{"the outer length below 5", le(4, 4), api.ErrForm},
		{"the outer length, wrong within", join(le(50, 4), []byte{0x55}), api.ErrForm},
		{"a text without a length", last(at(2, "t", []byte{0, 0, 0})), api.ErrShort},
		{"a text's length below 1, nothing behind", last(at(2, "t", le(0, 4))), api.ErrForm},
		{"a text's length below 0", last(at(2, "t", le(-7, 4))), api.ErrForm},
		{"a text of no bytes, without its 0", last(at(2, "t", le(1, 4))), api.ErrShort},
		{"a text that is no UTF-8, without its 0", last(at(2, "t", le(2, 4), []byte{0xff})), api.ErrShort},
		{"a text that is no UTF-8, cut", last(at(2, "t", le(3, 4), []byte{0xff})), api.ErrShort},
		{"a text that goes beyond the end", docOf(at(2, "t", le(1<<31-1, 4), []byte{'a', 0})), api.ErrShort},
		{"a text that is no UTF-8, another byte for its 0", docOf(at(2, "t", le(2, 4), []byte{0xff, 1})), api.ErrForm},
		{"a text that is no UTF-8, wrong behind it", docOf(at(2, "t", textOf("\xff")), at(0x55, "t")), api.ErrUtf8},
		{"Bytes without a length", last(at(5, "b", []byte{255, 255, 255})), api.ErrShort},
		{"Bytes' length below 0, no subtype", last(at(5, "b", le(-1, 4))), api.ErrShort},
		{"Bytes' length below 0, a subtype", last(at(5, "b", le(-1, 4), []byte{0})), api.ErrForm},
		{"Bytes' subtype, too few of them", last(at(5, "b", le(9, 4), []byte{2, 1})), api.ErrForm},
		{"too few of Bytes", last(at(5, "b", le(2, 4), []byte{0, 1})), api.ErrShort},
		{"Bytes that go beyond the end", docOf(at(5, "b", le(1<<31-1, 4), []byte{0, 1})), api.ErrShort},
		{"an Id that is cut", last(at(7, "i", make([]byte, 11))), api.ErrShort},
		{"no Bool", last(at(8, "b")), api.ErrShort},
		{"a Bool that is neither, nothing behind", last(at(8, "b", []byte{2})), api.ErrForm},
		{"a Date that is cut", last(at(9, "d", make([]byte, 7))), api.ErrShort},
		{"an Int32 that is cut", last(at(0x10, "n", make([]byte, 3))), api.ErrShort},
		{"an Int64 that is cut", last(at(0x12, "n", make([]byte, 7))), api.ErrShort},
		{"a double that is cut", last(at(1, "n", make([]byte, 7))), api.ErrShort},
		{"a decimal that is cut", last(at(0x13, "n", make([]byte, 15))), api.ErrShort},
		{"too long, and nothing else right", bytes.Repeat([]byte{0x55}, api.MaxBytes+1), api.ErrLong},
	} {
		wantNoDoc(t, x.what, x.b, x.want)
	}
}

// deepest is a document with documents as deep as may be, and in the last one a field of that kind and value, the bytes ending there. (Lengths of documents within are asked at their end, which is not met.)
func deepest(code byte, value ...[]byte) []byte {
	var b []byte
	for range api.MaxDepth - 1 {
		b = append(b, at(3, "a", le(1000, 4))...)
	}
	b = join(b, at(code, "a", value...))
	return join(le(int64(4+len(b)), 4), b)
}

// TestFirstOfTwoFields has wrong fields one behind another, alone and in a document within: the first one is told.
func TestFirstOfTwoFields(t *testing.T) {
	wrong := []struct {
		b    []byte
		want api.Errno
	}{
		{at(0x55, "a"), api.ErrKind},
		{at(0x0a, "\xff"), api.ErrUtf8},
		{at(0x0a, strings.Repeat("n", 121)), api.ErrName},
		{at(0x0a, "x"), api.ErrTwice},
		{at(1, "f", le(0, 8)), api.ErrFloat},
		{at(0x13, "g", make([]byte, 16)), api.ErrFloat},
		{at(2, "t", le(0, 4)), api.ErrForm},
		{at(2, "u", textOf("\x80")), api.ErrUtf8},
		{at(8, "b", []byte{7}), api.ErrForm},
		{at(4, "l", docOf(at(0x0a, "1"))), api.ErrForm},
		{at(3, "d", sized(6)), api.ErrForm},
		{at(5, "r", le(1<<20, 4), []byte{0}), api.ErrShort},
	}
	x := at(0x0a, "x")
	for _, one := range wrong {
		for _, two := range wrong {
			wantNoDoc(t, "two fields", docOf(x, one.b, two.b), one.want)
			wantNoDoc(t, "two fields, one between", docOf(x, one.b, at(0x08, "z", []byte{1}), two.b), one.want)
			wantNoDoc(t, "within and behind", docOf(at(3, "d", docOf(x, one.b)), x, two.b), one.want)
			wantNoDoc(t, "within a List and behind", docOf(at(4, "d", listOf(item(3, docOf(x, one.b)))), x, two.b), one.want)
			wantNoDoc(t, "ahead and within", docOf(x, one.b, at(3, "e", docOf(x, two.b))), one.want)
		}
	}
}

// TestWhatMayNotBe has values of which Decode answers none.
func TestWhatMayNotBe(t *testing.T) {
	twelve := make([]byte, 12)
	wrong := []api.Value{
		{}, {Kind: -1}, {Kind: api.Greatest + 1}, {Kind: 0x10}, {Kind: 255}, {Kind: -1 << 63}, {Kind: 1<<63 - 1},
		{N: 1}, {S: "x"}, // Missing, with something
		i32(1 << 31), i32(-1<<31 - 1), i32(1 << 32), i32(1<<63 - 1), i32(-1 << 63),
		truth(2), truth(-1), truth(256), truth(1 << 32), truth(-1 << 63),
		id(), id(1), id(twelve[:11]...), id(append(twelve, 0)...), {Kind: api.Id, S: "abcdefghijkl"},
		text("\xff"), doc(is("a\x00", null)), doc(is("\x00", null)), doc(is("\xff", null)),
		doc(is("a", null), is("a", null)), doc(is("a", api.Value{})), list(api.Value{}), list(null, api.Value{}, null),
		doc(is("a", null), is("b", api.Value{Kind: 99})),
	}
	for i, v := range wrong {
		what := "value " + strconv.Itoa(i)
		wantMayNot(t, what, v)
		wantMayNot(t, what+" in a document", one(v))
		wantMayNot(t, what+" behind and ahead", doc(is("x", null), is("y", v), is("z", null)))
		wantMayNot(t, what+" in a List", one(list(null, v)))
		wantMayNot(t, what+" within", one(list(one(v))))
	}
	for i, s := range samples() {
		if s.code != 0x03 {
			wantMayNot(t, "no Doc "+strconv.Itoa(i), s.v)
		}
	}
}

// TestWhatStandsBeside has values with something that is not of their kind: Decode answers none such.
func TestWhatStandsBeside(t *testing.T) {
	own := map[byte]string{0x02: "S", 0x03: "F", 0x04: "L", 0x05: "B", 0x07: "B", 0x08: "N", 0x09: "N", 0x10: "N", 0x12: "N"}
	for _, s := range samples() {
		for _, part := range []string{"N", "S", "B", "F", "L"} {
			if own[s.code] == part {
				continue
			}
			v := s.v
			switch part {
			case "N":
				v.N = 1
			case "S":
				v.S = "x"
			case "B":
				v.B = []byte{0}
			case "F":
				v.F = []api.Field{{}}
			case "L":
				v.L = []api.Value{null}
			}
			wantMayNot(t, "beside, itself "+part, v)
			wantMayNot(t, "beside "+part, one(v))
			wantMayNot(t, "beside, within "+part, one(list(one(v))))
		}
		// Lists that are empty are as none.
		v := s.v
		v.B = append([]byte{}, v.B...)
		v.F = append([]api.Field{}, v.F...)
		v.L = append([]api.Value{}, v.L...)
		wantBoth(t, "lists that are empty", one(v), docOf(at(s.code, "a", s.bytes)))
	}
}

// TestHugeValuesAreRefusedSoon has a value whose lists stand in it again and again: gone through whole, it would have no end in sight.
func TestHugeValuesAreRefusedSoon(t *testing.T) {
	v, w := list(), doc()
	for range api.MaxDepth - 2 {
		v = list(v, v, v, v)
		w = doc(is("a", w), is("b", w), is("c", w), is("d", w))
	}
	wantMayNot(t, "lists again and again", one(v))
	wantMayNot(t, "documents again and again", w)
	wantMayNot(t, "a long text", one(text(strings.Repeat("x", 1<<24))))
	wantMayNot(t, "many fields", doc(make([]api.Field, 1<<16)...))
	wantMayNot(t, "many items", one(list(make([]api.Value, 1<<18)...)))
	deep := doc()
	for range 1 << 16 {
		deep = one(deep)
	}
	wantMayNot(t, "documents in documents", deep)
	if c := bson.Copy(deep); !bson.Same(c, deep) || bson.Same(c, one(deep)) {
		t.Error("documents in documents: Copy, Same")
	}
}
