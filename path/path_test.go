package path_test

import (
	"slices"
	"strings"
	"testing"
	"unicode/utf8"

	"aqueduct/api"
	"aqueduct/path"
)

func wantNames(t *testing.T, s string, want ...string) {
	t.Helper()
	got, ok := path.Parse(s)
	if !ok || !slices.Equal(got, want) {
		t.Errorf("Parse(%.100q): %.300q, %v, want %.300q", s, got, ok, want)
	}
}

func wantNone(t *testing.T, s string) {
	t.Helper()
	if got, ok := path.Parse(s); ok || len(got) != 0 {
		t.Errorf("Parse(%.100q): %.300q, %v, want none", s, got, ok)
	}
}

func TestParse(t *testing.T) {
	for _, s := range []string{
		"a", "name", "a name", " ", "0", "_id", "A", "\n", "a\tb", ",", "\u00e4", "\u20ac", "\U0001F600", "\uFFFD", "\uFFFE", "\u3002", "\u2024", "\x01", "\x7f",
	} {
		wantNames(t, s, s)
		wantNames(t, s+"."+s, s, s)
		wantNames(t, "a."+s+".b", "a", s, "b")
	}
	wantNames(t, "a.b", "a", "b")
	wantNames(t, "a.b.c", "a", "b", "c")
	wantNames(t, "item.0.price", "item", "0", "price")
	wantNames(t, "a.a.a", "a", "a", "a")
	wantNames(t, "\u00e4.\u20ac.\U0001F600", "\u00e4", "\u20ac", "\U0001F600")
}

func TestParseOfEmptyNames(t *testing.T) {
	for _, s := range []string{
		"", ".", "..", "...", ".a", "a.", "a..b", "..a", "a..", ".a.", "a.b.", ".a.b", "a.b..c", "a...b",
		strings.Repeat(".", api.MaxPath-1), strings.Repeat(".", api.MaxPath), strings.Repeat(".", 1<<16),
	} {
		wantNone(t, s)
	}
}

// TestParseOfWrongNames has each of them alone, at the beginning, in the midst, at the end.
func TestParseOfWrongNames(t *testing.T) {
	for _, s := range []string{
		"$", "$a", "$$", "$a$", "$$ROOT", "$\xff",
		"\x00", "a\x00", "\x00a", "a\x00b", "\x00\x00", "$\x00",
		"\xff", "a\xff", "\xffa", "a\x80b", "\xc3", "\xe2\x82", "\xe2\x82a", "\xf0\x9f\x98", "\xc0\x80", "\xed\xa0\x80", "\xf4\x90\x80\x80", "\xf8\x88\x80\x80\x80",
		strings.Repeat("n", api.MaxName+1), strings.Repeat("\u00e4", api.MaxName/2+1), strings.Repeat("n", api.MaxName-1) + "\u00e4", strings.Repeat("n", 1<<16),
	} {
		wantNone(t, s)
		wantNone(t, s+".b")
		wantNone(t, "a."+s)
		wantNone(t, "a."+s+".b")
	}
	// A point parts the bytes of a letter.
	wantNone(t, "\xc3.\xa4")
	wantNone(t, "a\xe2.\x82\xac")
}

func TestParseOfDollarsFurtherOn(t *testing.T) {
	for _, s := range []string{"a$", "a$b", "a$$", " $", "0$a", "\u00e4$"} {
		wantNames(t, s, s)
		wantNames(t, "b."+s, "b", s)
		wantNames(t, s+".b", s, "b")
	}
	wantNone(t, "a.$")
	wantNone(t, "a.$b")
	wantNone(t, "a$.$b")
	wantNone(t, "a.b.$c")
}

func TestParseOfLongNames(t *testing.T) {
	for _, unit := range []string{"n", "\u00e4", "\u20ac", "\U0001F600", "$"} {
		many := api.MaxName/len(unit) - 1
		s := "abcd"[:len(unit)] + strings.Repeat(unit, many) // a dollar stands further on
		if len(s) != api.MaxName {
			t.Fatal(len(s))
		}
		wantNames(t, s, s)
		wantNames(t, s+"."+s, s, s)
		less := s[:len(s)-len(unit)]
		wantNames(t, less, less)
		wantNone(t, s+"x")
		wantNone(t, "a."+s+"x")
		wantNone(t, s+"x.a")
	}
}

func TestParseOfManyNames(t *testing.T) {
	for n := 1; n <= 3*api.MaxPath; n++ {
		for _, name := range []string{"a", strings.Repeat("n", api.MaxName)} {
			all := slices.Repeat([]string{name}, n)
			s := strings.Join(all, ".")
			if n <= api.MaxPath {
				wantNames(t, s, all...)
			} else {
				wantNone(t, s)
			}
			wantNone(t, s+".")
			wantNone(t, "."+s)
			wantNone(t, s+".$b")
		}
	}
	wantNone(t, strings.Repeat("a.", 1<<16)+"a")
}

// TestParseOfEachByte has every byte within a name, and at its beginning.
func TestParseOfEachByte(t *testing.T) {
	for c := range 256 {
		b := string([]byte{byte(c)})
		within, ahead := "a"+b+"c", b+"c"
		switch {
		case b == ".":
			wantNames(t, within, "a", "c")
			wantNone(t, ahead)
		case b == "\x00" || !utf8.ValidString(b):
			wantNone(t, within)
			wantNone(t, ahead)
		case b == "$":
			wantNames(t, within, within)
			wantNone(t, ahead)
		default:
			wantNames(t, within, within)
			wantNames(t, ahead, ahead)
		}
	}
}

// TestParsesNamesAreTheCallers has an answer changed: no later one hangs on that.
func TestParsesNamesAreTheCallers(t *testing.T) {
	const s = "a.b.c"
	one, _ := path.Parse(s)
	two, _ := path.Parse(s)
	one = append(one[:cap(one)], "z")
	for i := range one {
		one[i] = "spoilt"
	}
	if !slices.Equal(two, []string{"a", "b", "c"}) {
		t.Error(two)
	}
	wantNames(t, s, "a", "b", "c")
}

func TestTouch(t *testing.T) {
	long := strings.Repeat("n.", 99) + "n"
	for _, x := range []struct {
		a, b string
		want bool
	}{
		{"", "", true}, {"", "a", true}, {"", "a.b.c", true}, {"", long, true},
		{"a", "a", true}, {"a.b", "a.b", true}, {"a.b.c", "a.b.c", true}, {long, long, true},
		{"a", "a.b", true}, {"a", "a.b.c", true}, {"a.b", "a.b.c", true}, {"n", long, true}, {long, long + ".n", true},
		{"a", "b", false}, {"a", "b.a", false}, {"a.b", "b", false}, {"a.b", "b.b", false}, {"a.b.c", "b.b.c", false},
		{"a.b", "a.c", false}, {"a.b", "a.c.b", false}, {"a.b.c", "a.b.d", false}, {"a.b.c", "a.x.c", false}, {"a.b.c", "a.b.d.e", false}, {long + ".a", long + ".b", false},
		{"a", "ab", false}, {"a", "ab.c", false}, {"a.b", "ab", false}, {"a.bc", "a.b", false}, {"a.bc", "a.b.c", false}, {"a", "A", false},
		{"b", "a.b", false}, {"b.c", "a.b.c", false}, {"a.c", "a.b.c", false},
		{"\xff", "\xff.a", true}, {"\xff", "\xfe", false}, {"\xff", "\uFFFD", false}, {"$a", "$a.$b", true}, {"a\x00", "a", false},
	} {
		wantTouch(t, names(x.a), names(x.b), x.want)
	}
	wantTouch(t, []string{}, nil, true)
	wantTouch(t, []string{""}, nil, true)
	wantTouch(t, []string{""}, []string{"", ""}, true)
	wantTouch(t, []string{""}, []string{"a"}, false)
	wantTouch(t, []string{"a", ""}, []string{"a"}, true)
	wantTouch(t, []string{"a.b"}, []string{"a", "b"}, false)
	wantTouch(t, []string{"a.b", "c"}, []string{"a", "b.c"}, false)
}

// wantTouch asks both ways round, with room behind the names that is left alone.
func wantTouch(t *testing.T, a, b []string, want bool) {
	t.Helper()
	a, b = append(slices.Clone(a), "one")[:len(a)], append(slices.Clone(b), "other")[:len(b)]
	wholeA, wholeB := slices.Clone(a[:len(a)+1]), slices.Clone(b[:len(b)+1])
	if path.Touch(a, b) != want || path.Touch(b, a) != want {
		t.Errorf("Touch(%q, %q): %v, and %v the other way round, want %v", a, b, path.Touch(a, b), path.Touch(b, a), want)
	}
	if !slices.Equal(a[:len(a)+1], wholeA) || !slices.Equal(b[:len(b)+1], wholeB) {
		t.Errorf("Touch(%q, %q) has changed what was handed in", a, b)
	}
}
