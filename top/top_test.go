package top_test

import (
	"math"
	"math/rand"
	"strconv"
	"strings"
	"testing"

	"aqueduct/top"
)

// TestExample is the chapter's: the first a, the second a.
func TestExample(t *testing.T) {
	wantSteps(t, 2, "b:1 a:2 a:3", "yyy", "a:2 a:3")
}

// TestHowMany goes over each k: below nought, as many as come, one fewer, one more, far more.
func TestHowMany(t *testing.T) {
	const all = "d:1 b:2 e:3 a:4 c:5"
	wantSteps(t, math.MinInt, all, "nnnnn", "")
	wantSteps(t, -5, all, "nnnnn", "")
	wantSteps(t, -1, all, "nnnnn", "")
	wantSteps(t, 0, all, "nnnnn", "")
	wantSteps(t, 1, all, "yynyn", "a:4")
	wantSteps(t, 2, all, "yynyn", "a:4 b:2")
	wantSteps(t, 3, all, "yyyyy", "a:4 b:2 c:5")
	wantSteps(t, 4, all, "yyyyy", "a:4 b:2 c:5 d:1")
	wantSteps(t, 5, all, "yyyyy", "a:4 b:2 c:5 d:1 e:3")
	wantSteps(t, 6, all, "yyyyy", "a:4 b:2 c:5 d:1 e:3")
	wantSteps(t, 1<<20, all, "yyyyy", "a:4 b:2 c:5 d:1 e:3")
	wantSteps(t, 1<<40, all, "yyyyy", "a:4 b:2 c:5 d:1 e:3")
	wantSteps(t, math.MaxInt, all, "yyyyy", "a:4 b:2 c:5 d:1 e:3")
}

// TestAlike has keys that are alike, all of them and in part: who came ahead stays.
func TestAlike(t *testing.T) {
	wantSteps(t, 1, "a:1 a:2 a:3", "ynn", "a:1")
	wantSteps(t, 2, "a:1 a:2 a:3 a:4", "yynn", "a:1 a:2")
	wantSteps(t, 3, "a:1 a:2 a:3", "yyy", "a:1 a:2 a:3")
	wantSteps(t, 3, "b:1 b:2 b:3 a:4 b:5", "yyyyn", "a:4 b:1 b:2")
	wantSteps(t, 3, "b:1 a:2 b:3 a:4 b:5 a:6 a:7", "yyyynyn", "a:2 a:4 a:6")
	wantSteps(t, 4, "b:1 a:2 b:3 a:4 b:5 c:6 a:7", "yyyynny", "a:2 a:4 a:7 b:1")
	wantSteps(t, 5, "c:1 c:2 c:3 c:4 c:5 b:6 b:7 a:8", "yyyyyyyy", "a:8 b:6 b:7 c:1 c:2")
	wantSteps(t, 2, "a:same a:same a:same", "yyn", "a:same a:same")
	wantSteps(t, 2, "b:same a:same b:same", "yyn", "a:same b:same")
	wantSteps(t, 2, "a:z a:y a:x", "yyn", "a:z a:y") // data do not tell
}

// TestManyAlike drives those of one key out one by one, the last that came first.
func TestManyAlike(t *testing.T) {
	x := top.New(20)
	var all []top.Item
	for i := range 20 {
		all = append(all, it("m", strconv.Itoa(i)))
		wantAdd(t, x, "alike", all[i], true)
	}
	for i := range 20 {
		wantAdd(t, x, "one more", it("m", "more"), false)
		all = append(all, it("c", strconv.Itoa(i)))
		wantAdd(t, x, "ahead", it("c", strconv.Itoa(i)), true)
		wantTop(t, x, "driven out "+strconv.Itoa(i), first(20, all))
	}
	wantAdd(t, x, "c is full", it("c", "20"), false)
}

// TestKeysAsBytes has keys of which one is the beginning of another, the empty one, none, and bytes at their borders.
func TestKeysAsBytes(t *testing.T) {
	wantSteps(t, 2, "ab:1 a:2 abc:3 b:4", "yynn", "a:2 ab:1")
	wantSteps(t, 1, "abc:1 ab:2 a:3 a:4 aa:5", "yyynn", "a:3")
	wantSteps(t, 2, "a:1 :2 b:3 :4 :5", "yynyn", ":2 :4")
	none := top.Item{Data: []byte("none")}
	wantAll(t, 1, []top.Item{none, it("", "empty")})
	wantAll(t, 1, []top.Item{it("", "empty"), none})
	wantAll(t, 2, []top.Item{it("\x00", "0"), none, it("", "empty"), none})
	wantAll(t, 3, []top.Item{it("a", ""), none, {}, it("", ""), {}})
	borders := []string{"", "\x00", "\x00\x00", "\x00\x7f", "\x00\xff", "\x7f", "\x7f\x00", "\x7f\xff", "\x80", "\x80\x00", "\x80\x7f", "\xff", "\xff\x00", "\xff\x80", "\xff\xff", "\xff\xff\x00"}
	for i, a := range borders {
		for j, b := range borders {
			x := top.New(1)
			x.Add(it(a, "first"))
			wantAdd(t, x, strconv.QuoteToASCII(a), it(b, "second"), j < i)
		}
	}
	var up, down []top.Item
	for i, s := range borders {
		up = append(up, it(s, strconv.Itoa(i)))
		down = append([]top.Item{it(s, strconv.Itoa(i))}, down...)
	}
	for k := range len(borders) + 2 {
		wantAll(t, k, up)
		wantAll(t, k, down)
		x := top.New(k)
		for _, item := range down {
			wantAdd(t, x, "down", item, k > 0)
		}
		wantTop(t, x, "down", up[:min(k, len(up))])
	}
}

// TestData has items with none, with empty ones, and with long ones: only keys tell their order.
func TestData(t *testing.T) {
	long := strings.Repeat("x", 1000)
	wantAll(t, 2, []top.Item{{Key: []byte("b")}, {Key: []byte("a")}, {Key: []byte("a")}, it("a", ""), it("", long)})
	wantSteps(t, 2, "b a b a", "yyny", "a a")
	wantAll(t, 2, []top.Item{it("b", long), it("a", "\x00\xff\x80"), it("a", long), it("a", "")})
	wantAll(t, 3, []top.Item{it(long, "a"), it(long+"y", "b"), it(long, "c"), it(long[1:], "d"), it("w", long)})
}

// TestSize has one driven out by a longer and by a shorter one.
func TestSize(t *testing.T) {
	x := top.New(1)
	sizes := func(what string, item top.Item, kept bool, want int) {
		t.Helper()
		wantAdd(t, x, what, item, kept)
		if x.Size() != want || x.Len() != 1 {
			t.Errorf("%s: Size %d, Len %d, want %d and 1", what, x.Size(), x.Len(), want)
		}
	}
	if x.Size() != 0 || x.Len() != 0 {
		t.Error("a new one is not empty")
	}
	sizes("the first", it("key", "data"), true, 39)
	sizes("a longer key", it("kaaaa", "data"), true, 41)
	sizes("longer data", it("k", "very long data"), true, 47)
	sizes("none that is kept", it("long key", "and the longest data of all"), false, 47)
	sizes("a shorter one", it("j", "d"), true, 34)
	sizes("no data", it("i", ""), true, 33)
	sizes("nothing at all", top.Item{}, true, 32)
	sizes("nothing at all, again", top.Item{}, false, 32)
	two := top.New(2)
	for i, want := range []int{35, 70, 70, 71} {
		two.Add(it([]string{"b", "b", "b", "a"}[i], []string{"12", "12", "123", "123"}[i]))
		if two.Size() != want {
			t.Errorf("step %d: Size %d, want %d", i, two.Size(), want)
		}
	}
}

// TestComesAgain has one that drives the last one out, and then comes again; and what was driven out comes again.
func TestComesAgain(t *testing.T) {
	wantSteps(t, 2, "a:1 c:2 b:3 b:3 c:2 a:1 a:1", "yyynnyn", "a:1 a:1")
	wantSteps(t, 1, "b:1 a:2 a:2 b:1", "yynn", "a:2")
	wantSteps(t, 3, "b:1 c:2 c:3 a:4 a:4 c:3 a:4 b:1", "yyyyynyn", "a:4 a:4 a:4")
}

// TestAsTheyCome has them come rising, falling, from both ends, and alike by turns.
func TestAsTheyCome(t *testing.T) {
	const n = 40
	rows := map[string]func(i int) int{
		"rising":    func(i int) int { return i },
		"falling":   func(i int) int { return n - i },
		"both ends": func(i int) int { return (i%2)*2*n + i*(1-2*(i%2)) },
		"turns":     func(i int) int { return i * 7 % 5 },
		"pairs":     func(i int) int { return (n - i) / 2 },
		"waves":     func(i int) int { return i * 17 % n },
	}
	for _, row := range rows {
		var all []top.Item
		for i := range n {
			all = append(all, it(strconv.Itoa(1000+row(i)), strconv.Itoa(i)))
		}
		for _, k := range []int{-1, 0, 1, 2, 3, 7, 20, n - 1, n, n + 1, 10 * n} {
			wantAll(t, k, all)
		}
	}
}

// TestEachRow goes over all rows of few keys.
func TestEachRow(t *testing.T) {
	keys := []string{"", "a", "ab", "b"}
	const length = 6
	many := 1
	for range length {
		many *= len(keys)
	}
	for n := range many {
		all := make([]top.Item, length)
		for i, rest := 0, n; i < length; i, rest = i+1, rest/len(keys) {
			all[i] = it(keys[rest%len(keys)], strconv.Itoa(i))
		}
		wantAll(t, n%(length+2), all)
		wantAll(t, 2+n%3, all)
	}
}

// TestAtRandom holds any items against the same, reckoned in another way.
func TestAtRandom(t *testing.T) {
	r := rand.New(rand.NewSource(13))
	text := func(letters string, most int) string {
		b := make([]byte, r.Intn(most+1))
		for i := range b {
			b[i] = letters[r.Intn(len(letters))]
		}
		return string(b)
	}
	any256 := make([]byte, 256)
	for i := range any256 {
		any256[i] = byte(i)
	}
	letters := []string{"a", "ab", "\x00\x7f\x80\xff", string(any256)}
	for round := range 1500 {
		all := make([]top.Item, r.Intn(40))
		set, most := letters[round%len(letters)], 1+r.Intn(4)
		for i := range all {
			if r.Intn(5) == 0 && i > 0 {
				all[i] = all[r.Intn(i)]
				continue
			}
			all[i] = it(text(set, most), text("xyz", 3))
		}
		wantAll(t, r.Intn(len(all)+4)-1, all)
	}
}

// TestMany has very many come: few kept, and many.
func TestMany(t *testing.T) {
	const n = 200000
	r := rand.New(rand.NewSource(14))
	all := make([]top.Item, n)
	for i := range all {
		all[i] = it(strconv.Itoa(r.Intn(n/4)), strconv.Itoa(i))
	}
	for _, k := range []int{1, 10, n / 2, n - 1, n} {
		x := top.New(k)
		for _, item := range all {
			x.Add(item)
		}
		if want := first(k, all); !alike(x.List(), want) || x.Len() != k || x.Size() != size(want) {
			t.Errorf("k %d: not the first of %d", k, n)
		}
	}
}
