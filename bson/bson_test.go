package bson_test

import (
	"bytes"
	"strconv"
	"strings"
	"testing"

	"aqueduct/api"
	"aqueduct/bson"
)

func TestExampleOfTheChapter(t *testing.T) {
	wantBoth(t, "{a: Int32 1}", one(i32(1)), []byte{0x0c, 0, 0, 0, 0x10, 0x61, 0, 1, 0, 0, 0, 0})
}

func TestEachKind(t *testing.T) {
	for i, s := range samples() {
		what := "sample " + strconv.Itoa(i)
		wantBoth(t, what+" alone", one(s.v), docOf(at(s.code, "a", s.bytes)))
		wantBoth(t, what+" of the empty name", doc(is("", s.v)), docOf(at(s.code, "", s.bytes)))
		wantBoth(t, what+" behind and ahead", doc(is("x", null), is("a", s.v), is("y", i32(7))), docOf(at(0x0a, "x"), at(s.code, "a", s.bytes), at(0x10, "y", le(7, 4))))
		wantBoth(t, what+" in a document", one(one(s.v)), docOf(at(0x03, "a", docOf(at(s.code, "a", s.bytes)))))
		wantBoth(t, what+" in a List", one(list(s.v)), docOf(at(0x04, "a", listOf(item(s.code, s.bytes)))))
		wantBoth(t, what+" thrice in a List", one(list(s.v, s.v, s.v)), docOf(at(0x04, "a", listOf(item(s.code, s.bytes), item(s.code, s.bytes), item(s.code, s.bytes)))))
		wantBoth(t, what+" in a document in a List", one(list(one(s.v))), docOf(at(0x04, "a", listOf(item(0x03, docOf(at(s.code, "a", s.bytes)))))))
		if s.code == 0x03 {
			wantBoth(t, what+" itself", s.v, s.bytes)
		}
	}
	v, b := whole()
	wantBoth(t, "the whole", v, b)
}

// TestKindsAreFourteen goes over all bytes: which of them begin a field.
func TestKindsAreFourteen(t *testing.T) {
	codes := map[byte]bool{0x01: true, 0x13: true}
	for _, s := range samples() {
		codes[s.code] = true
	}
	if len(codes) != 14 {
		t.Fatal(len(codes))
	}
	for c := range 256 {
		want := api.ErrKind
		if codes[byte(c)] {
			want = api.ErrUtf8 // of the name behind it
		}
		if c > 0 {
			wantNoDoc(t, "kind "+strconv.Itoa(c), docOf(at(byte(c), "\xff")), want)
			wantNoDoc(t, "kind "+strconv.Itoa(c)+" in a List", docOf(at(0x04, "l", docOf(at(byte(c), "\xff")))), want)
		}
	}
}

func TestLeastLengths(t *testing.T) {
	wantBoth(t, "an empty document", doc(), []byte{5, 0, 0, 0, 0})
	wantBoth(t, "empty ones within", doc(is("d", doc()), is("l", list()), is("t", text("")), is("b", raw())), docOf(at(3, "d", docOf()), at(4, "l", docOf()), at(2, "t", le(1, 4), []byte{0}), at(5, "b", le(0, 4), []byte{0})))
	for _, n := range []int64{4, 3, 1, 0, -1, -1 << 31} {
		wantNoDoc(t, "the outer document", join(le(n, 4), []byte{0}), api.ErrForm)
		wantNoDoc(t, "a document", docOf(at(3, "d", le(n, 4), []byte{0})), api.ErrForm)
		wantNoDoc(t, "a List", docOf(at(4, "d", le(n, 4), []byte{0})), api.ErrForm)
	}
	for _, n := range []int64{0, -1, -5, -1 << 31} {
		wantNoDoc(t, "a text", docOf(at(2, "t", le(n, 4), []byte{0})), api.ErrForm)
	}
	for _, n := range []int64{-1, -5, -1 << 31} {
		wantNoDoc(t, "Bytes", docOf(at(5, "b", le(n, 4), []byte{0})), api.ErrForm)
	}
}

// filled is a document of n bytes, all but 14 of them Bytes or a text.
func filled(n int, code byte) (api.Value, []byte) {
	s := strings.Repeat("z", n-5-3-5)
	if code == 0x02 {
		return one(text(s)), docOf(at(code, "a", textOf(s)))
	}
	return one(raw([]byte(s)...)), docOf(at(code, "a", bytesOf([]byte(s)...)))
}

func TestMaxBytes(t *testing.T) {
	for _, code := range []byte{0x02, 0x05} {
		for _, n := range []int{api.MaxBytes - 1, api.MaxBytes} {
			v, b := filled(n, code)
			if len(b) != n {
				t.Fatal(len(b))
			}
			wantBoth(t, "MaxBytes", v, b)
		}
		for _, n := range []int{api.MaxBytes + 1, api.MaxBytes + 2, 3 * api.MaxBytes} {
			v, b := filled(n, code)
			wantNoDoc(t, "beyond MaxBytes", b, api.ErrLong)
			wantMayNot(t, "beyond MaxBytes", v)
		}
	}
	wantNoDoc(t, "zeros", make([]byte, api.MaxBytes), api.ErrForm)
	wantNoDoc(t, "zeros, one more", make([]byte, api.MaxBytes+1), api.ErrLong)
	_, b := filled(api.MaxBytes, 0x05)
	wantNoDoc(t, "one behind", append(b, 0), api.ErrLong)
}

// TestMaxBytesOfMany is of a document that is as long as may be by its fields, its items, or the documents in it.
func TestMaxBytesOfMany(t *testing.T) {
	many := doc()
	for i := 0; bson.Size(many) < api.MaxBytes-400; i++ {
		for range 20 {
			many.F = append(many.F, is("f"+strconv.Itoa(len(many.F)), null))
		}
	}
	grow(t, many, func(n int) api.Field { return is("pad", raw(make([]byte, n)...)) })
	var l api.Value
	l.Kind = api.List
	for bson.Size(one(l)) < api.MaxBytes-400 {
		for range 20 {
			l.L = append(l.L, doc())
		}
	}
	grow(t, one(l), func(n int) api.Field { return is("pad", text(strings.Repeat("p", n))) })
	grow(t, one(l), func(n int) api.Field { return is("pad", list(id(make([]byte, 12)...), raw(make([]byte, n)...))) })
}

// grow puts a field behind those of v, so long that it is just as long as may be, and one more.
func grow(t *testing.T, v api.Value, pad func(n int) api.Field) {
	t.Helper()
	with := func(n int) api.Value { return doc(append(append([]api.Field{}, v.F...), pad(n))...) }
	n := api.MaxBytes - bson.Size(with(0))
	if bson.Size(with(0)) == 0 || n < 0 {
		t.Fatal(bson.Size(with(0)))
	}
	b, e := bson.Encode(with(n))
	if e != api.OK || len(b) != api.MaxBytes || bson.Size(with(n)) != api.MaxBytes {
		t.Errorf("%d bytes, %v, Size %d", len(b), e, bson.Size(with(n)))
	}
	got, e := bson.Decode(b)
	if e != api.OK || !alike(got, with(n)) {
		t.Errorf("Decode: %v", e)
	}
	wantMayNot(t, "one more", with(n+1))
}

func TestMaxName(t *testing.T) {
	for _, unit := range []string{"x", "\u00e4", "\u20ac", "\U0001F600"} {
		s := strings.Repeat(unit, api.MaxName/len(unit))
		if len(s) != api.MaxName {
			t.Fatal(len(s))
		}
		wantBoth(t, "a name of MaxName", doc(is(s, null)), docOf(at(0x0a, s)))
		wantBoth(t, "a name of MaxName within", one(list(doc(is(s, null)))), docOf(at(4, "a", listOf(item(3, docOf(at(0x0a, s)))))))
		for _, more := range []string{"x", "xx", s, "\u00e4"} {
			wantNoDoc(t, "a name too long", docOf(at(0x0a, s+more)), api.ErrName)
			wantNoDoc(t, "a name too long within", docOf(at(4, "a", listOf(item(3, docOf(at(0x0a, s+more)))))), api.ErrName)
			wantMayNot(t, "a name too long", doc(is(s+more, null)))
			wantMayNot(t, "a name too long within", one(list(doc(is(s+more, null)))))
		}
	}
}

func TestMaxDepth(t *testing.T) {
	shapes := map[string]func(int) bool{
		"documents":      func(int) bool { return false },
		"Lists":          func(d int) bool { return d > 1 },
		"by turns":       func(d int) bool { return d%2 == 0 },
		"one List":       func(d int) bool { return d == 2 },
		"the last alone": func(d int) bool { return d == api.MaxDepth },
		"the one beyond": func(d int) bool { return d == api.MaxDepth+1 },
	}
	for what, isList := range shapes {
		for _, depth := range []int{1, 2, 3, api.MaxDepth - 1, api.MaxDepth} {
			v, b := nested(depth, isList)
			wantBoth(t, what+" "+strconv.Itoa(depth), v, b)
		}
		for _, depth := range []int{api.MaxDepth + 1, api.MaxDepth + 2, 100, 1000} {
			v, b := nested(depth, isList)
			wantNoDoc(t, what+" "+strconv.Itoa(depth), b, api.ErrDeep)
			wantMayNot(t, what+" "+strconv.Itoa(depth), v)
		}
	}
	// Values that are no documents lie as deep as they like.
	v, b := one(i32(5)), docOf(at(0x10, "a", le(5, 4)))
	for range api.MaxDepth - 1 {
		v, b = one(v), docOf(at(3, "a", b))
	}
	wantBoth(t, "a number in the deepest", v, b)
}

func TestListsNames(t *testing.T) {
	null := func(names ...string) []byte {
		var l [][]byte
		for _, n := range names {
			l = append(l, at(0x0a, n))
		}
		return docOf(at(0x04, "a", docOf(l...)))
	}
	for _, names := range [][]string{{"1"}, {""}, {"00"}, {"-0"}, {"+0"}, {"0 "}, {" 0"}, {"a"}, {"\uff10"}, {"0", "0"}, {"0", "2"}, {"0", "01"}, {"0", ""}, {"1", "0"}, {"0", "1", "1"}, {"0", "1", "3"}, {"0", "1", "0x2"}} {
		wantNoDoc(t, "a List's names "+strings.Join(names, " "), null(names...), api.ErrForm)
	}
	var names []string
	v := list()
	for i := range 1200 {
		wrong := append(append([]string{}, names...), strconv.Itoa(i+1))
		if i%97 == 0 || i == 9 || i == 10 || i == 99 || i == 999 {
			wantNoDoc(t, "the name of item "+strconv.Itoa(i), null(wrong...), api.ErrForm)
			wrong[i] = "0" + strconv.Itoa(i)
			wantNoDoc(t, "the name of item "+strconv.Itoa(i), null(wrong...), api.ErrForm)
		}
		names = append(names, strconv.Itoa(i))
		v.L = append(v.L, api.Value{Kind: api.Null})
	}
	wantBoth(t, "a List of 1200", one(v), null(names...))
}

// TestNamesThatStandTwice has documents of few fields and of many, the second one of a name anywhere.
func TestNamesThatStandTwice(t *testing.T) {
	for _, n := range []int{2, 3, 10, 15, 16, 17, 18, 19, 20, 31, 32, 33, 34, 70, 300} {
		var v api.Value
		v.Kind = api.Doc
		var l [][]byte
		for i := range n {
			s := "n" + strconv.Itoa(i)
			v.F = append(v.F, is(s, i32(int64(i))))
			l = append(l, at(0x10, s, le(int64(i), 4)))
		}
		wantBoth(t, "names that differ", v, docOf(l...))
		for i := range n {
			for j := i + 1; j < n; j += 1 + n/20 {
				c, w := append([][]byte{}, l...), doc(append([]api.Field{}, v.F...)...)
				c[j] = at(0x0a, "n"+strconv.Itoa(i))
				w.F[j] = is("n"+strconv.Itoa(i), null)
				wantNoDoc(t, "a name twice", docOf(c...), api.ErrTwice)
				wantMayNot(t, "a name twice", w)
			}
		}
	}
	wantNoDoc(t, "the empty name twice", docOf(at(0x0a, ""), at(0x0a, "")), api.ErrTwice)
	wantNoDoc(t, "twice within", docOf(at(4, "a", listOf(item(3, docOf(at(0x0a, "b"), at(0x0a, "b")))))), api.ErrTwice)
	wantMayNot(t, "twice within", one(list(doc(is("b", null), is("b", null)))))
	v := doc(is("a", one(null)), is("b", doc(is("a", null), is("b", null))))
	b := docOf(at(3, "a", docOf(at(0x0a, "a"))), at(3, "b", docOf(at(0x0a, "a"), at(0x0a, "b"))))
	wantBoth(t, "a name in several documents", v, b)
	// Names are held against each other by their bytes.
	wantBoth(t, "names that look alike", doc(is("\u00e4", null), is("a\u0308", null), is("A", null), is("a", null)), docOf(at(0x0a, "\u00e4"), at(0x0a, "a\u0308"), at(0x0a, "A"), at(0x0a, "a")))
}

// TestManyNamesTakeNoLongTime is of as many fields as go into a document.
func TestManyNamesTakeNoLongTime(t *testing.T) {
	v := doc()
	for i := range 9000 {
		v.F = append(v.F, is(strconv.FormatInt(int64(i), 36), null))
	}
	for range 20 {
		b, e := bson.Encode(v)
		if e != api.OK {
			t.Fatal(e)
		}
		if got, e := bson.Decode(b); e != api.OK || len(got.F) != 9000 {
			t.Fatal(e)
		}
	}
}

func TestWhatIsNoUtf8(t *testing.T) {
	for _, s := range []string{"\x80", "\xbf", "\xff", "\xfe", "\xc0\x80", "\xc1\xbf", "\xc3", "\xe2\x82", "\xe0\x80\x80", "\xed\xa0\x80", "\xed\xbf\xbf", "\xf0\x80\x80\x80", "\xf0\x9f\x98", "\xf4\x90\x80\x80", "\xf5\x80\x80\x80", "\xf8\x88\x80\x80\x80", "\xe2\x28\xa1"} {
		for _, s := range []string{s, "a" + s, s + "a", "\u20ac" + s} {
			wantNoDoc(t, "a text", docOf(at(2, "a", textOf(s))), api.ErrUtf8)
			wantNoDoc(t, "a name", docOf(at(0x0a, s)), api.ErrUtf8)
			wantNoDoc(t, "a List's name", docOf(at(4, "a", docOf(at(0x0a, s)))), api.ErrUtf8)
			wantMayNot(t, "a text", one(text(s)))
			wantMayNot(t, "a name", doc(is(s, null)))
		}
	}
	for _, s := range []string{"\ud7ff", "\ue000", "\uffff", "\U00010000", "\U0010ffff", "\x01", "\x7f", "\ufeff", "\uFFFD"} {
		wantBoth(t, "a text and a name", doc(is(s, text(s))), docOf(at(2, s, textOf(s))))
	}
}

func TestBoolsAndSubtypes(t *testing.T) {
	for n := 1; n < 256; n++ {
		wantNoDoc(t, "a subtype", docOf(at(5, "a", le(2, 4), []byte{byte(n), 7, 7})), api.ErrForm)
		wantNoDoc(t, "a subtype of none", docOf(at(5, "a", le(0, 4), []byte{byte(n)})), api.ErrForm)
		if n > 1 {
			wantNoDoc(t, "a Bool", docOf(at(8, "a", []byte{byte(n)})), api.ErrForm)
			wantNoDoc(t, "a Bool in a List", docOf(at(4, "a", listOf(item(8, []byte{byte(n)})))), api.ErrForm)
		}
	}
}

// TestAnswersShareNothing holds that what is answered is new memory, on both ways.
func TestAnswersShareNothing(t *testing.T) {
	v, b := whole()
	same := bytes.Clone(b)
	got, _ := bson.Decode(b)
	again, _ := bson.Decode(b)
	spoil(got)
	if !bytes.Equal(b, same) {
		t.Error("what was decoded shares its bytes")
	}
	wantAlike(t, "another answer", again, v)
	clear(b)
	wantAlike(t, "behind a change of the bytes", again, v)
	one, _ := bson.Encode(v)
	two, _ := bson.Encode(v)
	clear(one[:cap(one)])
	if !bytes.Equal(two, same) {
		t.Error("what was encoded shares its bytes")
	}
	want, _ := bson.Decode(same)
	wantAlike(t, "what was encoded", v, want)
}

// spoil changes every list of a value, spare room and lists within included.
func spoil(v api.Value) {
	for _, f := range v.F {
		spoil(f.V)
	}
	for _, x := range v.L {
		spoil(x)
	}
	for i := range v.B[:cap(v.B)] {
		v.B[:cap(v.B)][i] ^= 0x55
	}
	for i := range v.F[:cap(v.F)] {
		v.F[:cap(v.F)][i] = is("spoilt", i32(77))
	}
	for i := range v.L[:cap(v.L)] {
		v.L[:cap(v.L)][i] = i32(77)
	}
}
