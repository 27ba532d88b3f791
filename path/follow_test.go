package path_test

import (
	"slices"
	"strconv"
	"strings"
	"testing"

	"aqueduct/api"
	"aqueduct/bson"
	"aqueduct/path"
)

// chapter is the value of the chapter's example: {a: [{b: 1}, 5, {b: 2}]}.
func chapter() api.Value { return is("a", list(is("b", i32(1)), i32(5), is("b", i32(2)))) }

func TestExampleOfTheChapter(t *testing.T) {
	wantReach(t, "the example", chapter(), []string{"a", "b"}, list(i32(1), i32(2)))
	wantAll(t, "the example", chapter(), []string{"a", "b"}, i32(1), i32(2))
}

// TestReachOfNoNames has the value itself, whatever it is.
func TestReachOfNoNames(t *testing.T) {
	many := append(append(plain(), posing()...), missing, doc(), list(), chapter(), list(chapter(), list(null), missing), is("", missing))
	for i, v := range many {
		for _, p := range [][]string{nil, {}} {
			wantReach(t, "value "+strconv.Itoa(i), v, p, v)
		}
		wantReach(t, "in a field "+strconv.Itoa(i), is("a", v), []string{"a"}, v)
		wantReach(t, "in two "+strconv.Itoa(i), is("a", is("b", v)), []string{"a", "b"}, v)
	}
}

func TestReachThroughDocuments(t *testing.T) {
	v := docs(is("a", docs(is("b", i32(1)), is("c", docs(is("d", text("x")), is("a", i32(3)))))), is("b", i32(2)), is("", is("", i32(4))), is("a.b", i32(5)), is("$x", i32(6)), is("\xff", i32(7)))
	for p, want := range map[string]api.Value{
		"a": v.F[0].V, "b": i32(2), "a.b": i32(1), "a.c": v.F[0].V.F[1].V, "a.c.d": text("x"), "a.c.a": i32(3), "$x": i32(6), "\xff": i32(7), ".": i32(4),
		// A field that is Missing, at the end and in the midst.
		"x": missing, "a.x": missing, "a.c.x": missing, "x.b": missing, "a.x.d": missing, "x.x.x": missing, "A": missing, "d": missing, "c.d": missing,
		// What is neither Doc nor List, and names left.
		"b.a": missing, "a.b.c": missing, "a.c.d.x": missing, "\xff.a": missing,
	} {
		wantReach(t, "documents", v, names(p), want)
		wantReach(t, "a document more", is("z", v), append([]string{"z"}, names(p)...), want)
	}
	wantReach(t, "an empty name", v, []string{""}, is("", i32(4)))
	wantReach(t, "a name with a point", v, []string{"a.b"}, i32(5))
	wantReach(t, "a name twice", docs(is("a", i32(1)), is("a", i32(2))), []string{"a"}, i32(1))
	wantReach(t, "a name twice, the second one reaches on", docs(is("a", i32(1)), is("a", is("b", i32(2)))), []string{"a", "b"}, missing)
	wantReach(t, "no fields", doc(), []string{"a"}, missing)
	wantReach(t, "a field that is Missing", docs(is("a", missing), is("a", i32(2))), []string{"a"}, missing)
	wantReach(t, "a field that is Missing, names left", is("a", missing), []string{"a", "b"}, missing)
}

func TestReachThroughLists(t *testing.T) {
	one, two := is("b", i32(1)), is("b", i32(2))
	for _, x := range []struct {
		what    string
		v, want api.Value
	}{
		{"an empty one", list(), list()},
		{"one item", list(one), list(i32(1))},
		{"two in order", list(two, one), list(i32(2), i32(1))},
		{"the same twice", list(one, one), list(i32(1), i32(1))},
		{"none is Doc or List", list(plain()...), list()},
		{"none of those that have items", list(posing()...), list()},
		{"some are", list(null, two, missing, i32(5), one, text("b")), list(i32(2), i32(1))},
		{"a field that is Missing", list(one, is("c", i32(3)), doc(), two), list(i32(1), i32(2))},
		{"all Missing", list(doc(), is("a", one), is("b", missing)), list()},
		{"Null is reached", list(is("b", null), one), list(null, i32(1))},
		{"Documents and Lists are reached", list(is("b", list()), is("b", doc()), is("b", list(null, missing))), list(list(), doc(), list(null, missing))},
		{"a name twice", list(docs(one, two)), list(i32(1))},
		{"a List in it", list(list(one, two)), list(list(i32(1), i32(2)))},
		{"Lists and documents by turns", list(one, list(two, i32(9)), two, list(list(one))), list(i32(1), list(i32(2)), i32(2), list(list(i32(1))))},
		{"empty Lists in it stay", list(list(), list(list()), list(null), list(doc())), list(list(), list(list()), list(), list())},
	} {
		wantReach(t, x.what, x.v, []string{"b"}, x.want)
		wantReach(t, x.what+", in a field", is("a", x.v), []string{"a", "b"}, x.want)
		wantReach(t, x.what+", no names left", is("a", x.v), []string{"a"}, x.v)
		wantReach(t, x.what+", in a List", list(x.v, i32(1), x.v), []string{"b"}, list(x.want, x.want))
		wantReach(t, x.what+", in documents in a List", list(is("z", x.v), is("z", i32(1)), i32(1), is("y", x.v), list(is("z", x.v))), []string{"z", "b"}, list(x.want, list(x.want)))
	}
}

func TestReachThroughListsAtEachName(t *testing.T) {
	v := is("a", list(is("b", list(is("c", i32(1)), is("c", list(i32(2), i32(3))), i32(4))), is("b", is("c", i32(5))), is("b", i32(6)), list(is("b", is("c", i32(7))))))
	wantReach(t, "a.b.c", v, names("a.b.c"), list(list(i32(1), list(i32(2), i32(3))), i32(5), list(i32(7))))
	wantReach(t, "a.b", v, names("a.b"), list(v.F[0].V.L[0].F[0].V, is("c", i32(5)), i32(6), list(is("c", i32(7)))))
	wantReach(t, "a.c", v, names("a.c"), list(list()))
	wantReach(t, "numbers are names alone", v, names("a.0"), list(list()))
	wantReach(t, "numbers are names alone", list(is("0", i32(1)), i32(2)), names("0"), list(i32(1)))
	wantReach(t, "the name of what is no item", list(i32(1), i32(2)), names("1"), list())
}

// TestReachBesideItems has Docs and Lists with something beside what they have: it is no item, and does not stay beside what is reached.
func TestReachBesideItems(t *testing.T) {
	odd := api.Value{Kind: api.List, N: 7, S: "s", B: []byte{1}, F: is("b", i32(1)).F, L: []api.Value{is("b", i32(2))}}
	wantReach(t, "a List with fields", odd, names("b"), list(i32(2)))
	wantAll(t, "a List with fields", odd, names("b"), i32(2))
	odd.Kind = api.Doc
	wantReach(t, "a Doc with items", odd, names("b"), i32(1))
	wantAll(t, "a Doc with items", odd, names("b"), i32(1))
	wantAll(t, "a Doc with items, no names", odd, nil, odd)
	wantAll(t, "a Doc with items, in a field", is("a", odd), names("a"), odd)
}

func TestNamesLeftOfOthers(t *testing.T) {
	for i, v := range append(append(plain(), posing()...), missing) {
		for _, p := range []string{"a", "b", "a.b", "a.a"} {
			what := "value " + strconv.Itoa(i)
			wantReach(t, what, v, names(p), missing)
			wantAll(t, what, v, names(p), missing)
			wantReach(t, what+" in a field", is("z", v), names("z."+p), missing)
			wantAll(t, what+" in a field", is("z", v), names("z."+p), missing)
		}
		wantReach(t, "an empty name", v, []string{""}, missing)
		wantAll(t, "an empty name", v, []string{""}, missing)
	}
}

func TestAllOfNoNames(t *testing.T) {
	for i, v := range append(append(plain(), posing()...), missing, doc(), chapter(), is("a", list(i32(1)))) {
		what := "value " + strconv.Itoa(i)
		for _, p := range [][]string{nil, {}} {
			wantAll(t, what, v, p, v)
			wantAll(t, what+" in a List", list(v), p, list(v), v)
			wantAll(t, what+" in a List of three", list(i32(1), v, null), p, list(i32(1), v, null), i32(1), v, null)
			wantAll(t, what+" in a List in a List", list(list(v)), p, list(list(v)), list(v))
		}
		wantAll(t, what+" in a List in a field", is("a", list(v, v)), []string{"a"}, list(v, v), v, v)
		if v.Kind != api.Missing {
			wantAll(t, what+" in a field", is("a", v), []string{"a"}, v)
		}
	}
	wantAll(t, "an empty List", list(), nil, list())
	wantAll(t, "an empty List in a field", is("a", list()), []string{"a"}, list())
	wantAll(t, "Missing in a List", list(missing, missing), nil, list(missing, missing), missing, missing)
}

func TestAllThroughDocuments(t *testing.T) {
	v := docs(is("a", docs(is("b", i32(1)), is("c", is("d", text("x"))))), is("b", list(i32(2), i32(3))), is("", i32(4)), is("$x", i32(5)), is("\xff", i32(6)))
	for p, want := range map[string][]api.Value{
		"a": {v.F[0].V}, "b": {list(i32(2), i32(3)), i32(2), i32(3)}, "a.b": {i32(1)}, "a.c": {is("d", text("x"))}, "a.c.d": {text("x")}, "$x": {i32(5)}, "\xff": {i32(6)},
		"x": {missing}, "a.x": {missing}, "a.c.x": {missing}, "x.b": {missing}, "a.x.d": {missing}, "x.x.x": {missing}, "a.b.c": {missing}, "a.c.d.x": {missing}, "b.a": {missing},
	} {
		wantAll(t, "documents", v, names(p), want...)
		wantAll(t, "a document more", is("z", v), append([]string{"z"}, names(p)...), want...)
	}
	wantAll(t, "an empty name", v, []string{""}, i32(4))
	wantAll(t, "a name with a point", is("a.b", i32(1)), []string{"a.b"}, i32(1))
	wantAll(t, "a name twice", docs(is("a", i32(1)), is("a", i32(2))), []string{"a"}, i32(1))
	wantAll(t, "no fields", doc(), []string{"a"}, missing)
	wantAll(t, "a field that is Missing", docs(is("a", missing), is("a", i32(2))), []string{"a"}, missing)
	wantAll(t, "a field that is Missing, names left", is("a", missing), []string{"a", "b"}, missing)
	wantAll(t, "a field that is Missing, with something beside", is("a", api.Value{N: 5, L: []api.Value{null}}), []string{"a"}, missing)
}

func TestAllThroughLists(t *testing.T) {
	one, two := is("b", i32(1)), is("b", i32(2))
	for _, x := range []struct {
		what string
		v    api.Value
		want []api.Value
	}{
		{"an empty one", list(), []api.Value{missing}},
		{"one item", list(one), []api.Value{i32(1)}},
		{"two in order", list(two, one), []api.Value{i32(2), i32(1)}},
		{"the same twice", list(one, one), []api.Value{i32(1), i32(1)}},
		{"none is a Doc", list(plain()...), []api.Value{missing}},
		{"none of those that have fields", list(posing()...), []api.Value{missing}},
		{"some are", list(null, two, missing, i32(5), one, text("b")), []api.Value{i32(2), i32(1)}},
		{"a field that is Missing stays", list(one, is("c", i32(3)), doc(), two), []api.Value{i32(1), missing, missing, i32(2)}},
		{"all Missing", list(doc(), is("a", one), is("b", missing)), []api.Value{missing, missing, missing}},
		{"Null", list(is("b", null), one), []api.Value{null, i32(1)}},
		{"Lists and their items", list(is("b", list(i32(7), list(i32(8)))), is("b", list()), one), []api.Value{list(i32(7), list(i32(8))), i32(7), list(i32(8)), list(), i32(1)}},
		{"a name twice", list(docs(one, two)), []api.Value{i32(1)}},
		{"a List in it is passed by", list(list(one, two)), []api.Value{missing}},
		{"Lists and documents by turns", list(list(one), two, list(), one, list(list(two))), []api.Value{i32(2), i32(1)}},
	} {
		wantAll(t, x.what, x.v, []string{"b"}, x.want...)
		wantAll(t, x.what+", in a field", is("a", x.v), []string{"a", "b"}, x.want...)
		wantAll(t, x.what+", no names left", is("a", x.v), []string{"a"}, append([]api.Value{x.v}, x.v.L...)...)
		wantAll(t, x.what+", in documents in a List", list(is("z", x.v), x.v, is("z", i32(1)), is("z", x.v)), []string{"z", "b"}, slices.Concat(x.want, []api.Value{missing}, x.want)...)
		wantAll(t, x.what+", in a List", list(x.v), []string{"b"}, missing)
	}
}

func TestAllThroughListsAtEachName(t *testing.T) {
	v := is("a", list(is("b", list(is("c", i32(1)), is("c", list(i32(2), i32(3))), i32(4))), is("b", is("c", i32(5))), is("b", i32(6)), list(is("b", is("c", i32(7)))), is("b", list(i32(8)))))
	wantAll(t, "a.b.c", v, names("a.b.c"), i32(1), list(i32(2), i32(3)), i32(2), i32(3), i32(5), missing, missing)
	wantAll(t, "a.c", v, names("a.c"), missing, missing, missing, missing)
	wantAll(t, "numbers are names alone", list(is("0", i32(1)), i32(2)), names("0"), i32(1))
	wantAll(t, "the name of what is no item", list(i32(1), i32(2)), names("1"), missing)
}

// TestLongPaths has more names than a path that is parsed.
func TestLongPaths(t *testing.T) {
	v, want, beyond := i32(7), i32(7), list()
	var p []string
	for i := range 1 << 12 {
		name := strconv.Itoa(i)
		p = append([]string{name}, p...)
		v = is(name, v)
		if i%2 == 1 {
			v = list(v)
			want = list(want)
		}
		if i%2 == 1 && i > 1 {
			beyond = list(beyond)
		}
	}
	wantReach(t, "long", v, p, want)
	wantAll(t, "long", v, p, i32(7))
	wantReach(t, "too long", v, append(p, "x"), beyond)
	wantAll(t, "too long", v, append(p, "x"), missing)
}

// TestDeepLists has a List in a List again and again, a document within.
func TestDeepLists(t *testing.T) {
	v, want := is("a", i32(1)), i32(1)
	for range 1<<16 - 2 {
		v, want = list(v), list(want)
	}
	if !bson.Same(path.Reach(v, []string{"a"}), want) || !bson.Same(path.Reach(v, nil), v) {
		t.Error("Lists in Lists: Reach")
	}
	if l := path.All(v, []string{"a"}); len(l) != 1 || !bson.Same(l[0], missing) {
		t.Error("Lists in Lists: All")
	}
}

// shared is a value with lists of every sort.
func shared() api.Value {
	raw := api.Value{Kind: api.Bytes, B: append(make([]byte, 0, 9), 1, 2, 3)}
	in := docs(is("b", list(raw, list(raw), is("c", raw))), is("c", raw))
	return docs(is("a", list(in, list(in), text("x"), in)), is("b", in), is("c", raw))
}

var sharedPaths = []string{"", "a", "b", "c", "a.b", "a.c", "b.b", "b.c", "a.b.c", "b.b.c", "x", "a.x"}

// TestAnswersAreNewMemory has all of an answer changed, and all of what was handed in.
func TestAnswersAreNewMemory(t *testing.T) {
	for _, p := range sharedPaths {
		v := bson.Copy(shared())
		want, wantAll := path.Reach(v, names(p)), path.All(v, names(p))
		spoil(path.Reach(v, names(p)))
		l := path.All(v, names(p))
		for _, x := range l {
			spoil(x)
		}
		clear(l[:cap(l)])
		if !bson.Same(v, shared()) {
			t.Errorf("%q: an answer shares lists with what was handed in", p)
		}
		if !bson.Same(path.Reach(v, names(p)), want) || !slices.EqualFunc(path.All(v, names(p)), wantAll, bson.Same) {
			t.Errorf("%q: an answer hangs on one that was changed", p)
		}
		spoil(v)
		if !bson.Same(want, path.Reach(shared(), names(p))) || !slices.EqualFunc(wantAll, path.All(shared(), names(p)), bson.Same) {
			t.Errorf("%q: an answer hangs on what was handed in", p)
		}
	}
}

// TestAnswersShareNothingWithin has one value of an answer changed: the others stay.
func TestAnswersShareNothingWithin(t *testing.T) {
	for _, p := range sharedPaths {
		want := path.All(shared(), names(p))
		for i := range want {
			got := path.All(shared(), names(p))
			spoil(got[i])
			for j := range got {
				if j != i && !bson.Same(got[j], want[j]) {
					t.Errorf("%q: the values %d and %d of an answer share lists", p, i, j)
				}
			}
		}
		whole := path.Reach(shared(), names(p))
		for i := range whole.L {
			got := path.Reach(shared(), names(p))
			spoil(got.L[i])
			for j := range got.L {
				if j != i && !bson.Same(got.L[j], whole.L[j]) {
					t.Errorf("%q: the items %d and %d of an answer share lists", p, i, j)
				}
			}
		}
	}
}

// TestSpareRoomIsLeftAlone has room behind all that is handed in.
func TestSpareRoomIsLeftAlone(t *testing.T) {
	items := []api.Value{is("b", i32(1)), is("b", list(i32(2))), is("b", i32(3)), text("room"), text("room"), text("room")}
	fields := []api.Field{{Name: "a", V: list(items[:3]...)}, {Name: "a", V: i32(7)}}
	room := []string{"a", "b", "room"}
	same := bson.Copy(list(items...))
	for n := range 3 {
		path.Reach(doc(fields[:1]...), room[:n])
		path.All(doc(fields[:1]...), room[:n])
		path.All(fields[0].V, room[1:1+n])
		path.Reach(fields[0].V, room[1:1+n])
	}
	if !bson.Same(list(items...), same) || strings.Join(room, " ") != "a b room" || fields[1].V.N != 7 {
		t.Errorf("room was changed: %v, %v, %v", items, fields, room)
	}
}
