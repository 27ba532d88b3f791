package sorter_test

import (
	"math/rand"
	"slices"
	"strconv"
	"testing"

	"aqueduct/api"
	"aqueduct/sorter"
	"aqueduct/top"
)

// rooms are those that matter for the items: nought, a few bytes, what each beginning of them needs, a byte fewer, a byte more, more than all.
func rooms(all []top.Item) []int {
	l := []int{0, 1, 31, 32, 33, 64, 100, 1000, api.MaxBudget - others}
	for i := range all {
		n := total(all[:i+1])
		l = append(l, n-1, n, n+1)
	}
	slices.Sort(l)
	return slices.Compact(l)
}

// wantAnyhow has those items be sorted whatever the room and the page's size.
func wantAnyhow(t *testing.T, all []top.Item) {
	t.Helper()
	for _, page := range []int{64, 128, 4096} {
		for _, room := range rooms(all) {
			wantAll(t, page, room, all)
		}
	}
}

// wantOrder has the items of the text be brought as want says.
func wantOrder(t *testing.T, all, want string) {
	t.Helper()
	if l := sorted(parse(all)); !alike(l, parse(want)) {
		t.Errorf("%s: want%s", all, show(l))
	}
	wantAnyhow(t, parse(all))
}

// TestExample is the chapter's: a budget of 0, three items.
func TestExample(t *testing.T) {
	p := made(t, 64, 0, 100)
	s := sorter.New(p.d, p.l)
	for i, x := range parse("b:1 a:2 a:3") {
		wantAdd(t, "example", s, x, api.OK)
		wantRuns(t, "example", s, i)
	}
	wantErr(t, "Sort", s.Sort(), api.OK)
	wantRuns(t, "example", s, 3)
	wantRest(t, "example", s, parse("a:2 a:3 b:1"))
}

// TestFew has no item, one, two.
func TestFew(t *testing.T) {
	wantOrder(t, "", "")
	wantOrder(t, "a:1", "a:1")
	wantOrder(t, ":", ":")
	wantOrder(t, "a:1 b:2", "a:1 b:2")
	wantOrder(t, "b:1 a:2", "a:2 b:1")
	wantOrder(t, "a:2 a:1", "a:2 a:1")
	wantOrder(t, "c:1 a:2 b:3", "a:2 b:3 c:1")
}

// TestOneItemIsNoRun has one alone, held whatever the budget.
func TestOneItemIsNoRun(t *testing.T) {
	for _, room := range []int{0, 1, 34, 35, 1000} {
		p := made(t, 64, room, 0)
		s := sorter.New(p.d, p.l)
		ops := p.d.Ops()
		wantAdd(t, "one", s, it("key", "data"), api.OK)
		wantErr(t, "Sort", s.Sort(), api.OK)
		wantRest(t, "one", s, parse("key:data"))
		wantRuns(t, "one", s, 0)
		if p.d.Ops() != ops {
			t.Errorf("room %d: %d operations", room, p.d.Ops()-ops)
		}
		p.wantClear(t, "one")
	}
}

// TestAlike has keys that are alike, all of them and in part.
func TestAlike(t *testing.T) {
	wantOrder(t, "a:5 a:1 a:4 a:1 a:3 a:9 a:2 a:6", "a:5 a:1 a:4 a:1 a:3 a:9 a:2 a:6")
	wantOrder(t, "b:5 a:1 b:4 a:1 b:3 a:9 b:2 a:6", "a:1 a:1 a:9 a:6 b:5 b:4 b:3 b:2")
	wantOrder(t, "b:2 b:1 a:7 b:3 c:1 a:8 c:0 b:0 a:6", "a:7 a:8 a:6 b:2 b:1 b:3 b:0 c:1 c:0")
	wantOrder(t, ":2 :1 a: :0 a:", ":2 :1 :0 a: a:")
	wantOrder(t, "x:same x:same x:same x:same", "x:same x:same x:same x:same")
}

// TestManyAlike has far more of one key than go into one run, and than are merged at once.
func TestManyAlike(t *testing.T) {
	for _, keys := range []int{1, 2, 5} {
		all := some(150, keys, 20, keys)
		for _, room := range []int{0, 100, 400, 1000, 3000} {
			wantAll(t, 64, room, all)
		}
	}
}

// TestKeysAsBytes has keys of which one is the beginning of another, the empty one, none, and bytes at their borders.
func TestKeysAsBytes(t *testing.T) {
	wantOrder(t, "abc:1 ab:2 a:3 :4 aa:5 b:6 abcd:7 ab:8", ":4 a:3 aa:5 ab:2 ab:8 abc:1 abcd:7 b:6")
	borders := []string{"\xff\xff\x00", "\xff\xff", "\xff\x80", "\xff\x00", "\xff", "\x80\x7f", "\x80\x00", "\x80", "\x7f\xff", "\x7f\x00", "\x7f", "\x00\xff", "\x00\x7f", "\x00\x00", "\x00", ""}
	var all []top.Item
	for i := range 3 * len(borders) {
		all = append(all, it(borders[i*7%len(borders)], strconv.Itoa(i)))
	}
	for _, room := range []int{0, 70, 200, 500, 5000} {
		wantAll(t, 64, room, all)
		wantAll(t, 512, room, all)
	}
}

// TestNone has keys and data that are nil beside those that are empty: they come as they were added, spilled or not.
func TestNone(t *testing.T) {
	none, empty := top.Item{}, it("", "")
	wantAnyhow(t, []top.Item{none})
	wantAnyhow(t, []top.Item{empty})
	wantAnyhow(t, []top.Item{none, empty, none, empty})
	wantAnyhow(t, []top.Item{it("a", "1"), {Data: []byte("none")}, it("", "empty"), {Key: []byte("a")}, it("a", ""), none})
}

// TestData has data and keys of each length about a page's and the next one's, so that records are cut everywhere.
func TestData(t *testing.T) {
	var all []top.Item
	for n := range 140 {
		all = append(all, top.Item{Key: noise(n%9, n%4), Data: noise(n, n)}, top.Item{Key: noise(n, n), Data: noise(n%5, n)})
	}
	for _, room := range []int{0, 500, 2000, 10000, 100000} {
		wantAll(t, 64, room, all)
		wantAll(t, 128, room, all)
	}
}

// TestRowsOfFewKeys has each row of up to five of three keys.
func TestRowsOfFewKeys(t *testing.T) {
	keys := []string{"", "a", "ab"}
	for n := range 6 {
		count := 1
		for range n {
			count *= len(keys)
		}
		for code := range count {
			var all []top.Item
			for i := range n {
				all = append(all, it(keys[code%3], strconv.Itoa(i)))
				code /= 3
			}
			for _, room := range []int{0, 70, 105, 140} {
				wantAll(t, 64, room, all)
			}
		}
	}
}

// TestRisingAndFalling has items that are sorted already, and those that are the other way round.
func TestRisingAndFalling(t *testing.T) {
	var rising, falling []top.Item
	for i := range 120 {
		rising = append(rising, it(strconv.Itoa(1000+i), strconv.Itoa(i)))
		falling = append(falling, it(strconv.Itoa(2000-i), strconv.Itoa(i)))
	}
	for _, room := range []int{0, 100, 300, 1000, 2000, 6000} {
		wantAll(t, 64, room, rising)
		wantAll(t, 64, room, falling)
	}
}

// TestAnyItems has items at random, over any room and page.
func TestAnyItems(t *testing.T) {
	r := rand.New(rand.NewSource(14))
	for i := range 1500 {
		n := r.Intn(1 << r.Intn(8))
		all := some(n, 1+r.Intn(1<<r.Intn(8)), 1<<r.Intn(8), i)
		for j := range all {
			switch r.Intn(12) {
			case 0:
				all[j].Data = nil
			case 1:
				all[j].Key = noise(r.Intn(100), r.Intn(3))
			case 2:
				all[j].Key = all[j].Key[:r.Intn(len(all[j].Key))]
			case 3:
				all[j].Key = nil
			}
		}
		wantAll(t, 64<<r.Intn(7), r.Intn(1<<(1+r.Intn(14))), all)
	}
}

// TestMany has more than a thousand runs, and with that many merges of merges.
func TestMany(t *testing.T) {
	for _, room := range []int{0, 300, 700, 2000} {
		wantAll(t, 64, room, some(1500, 300, 10, room))
	}
	wantAll(t, 256, 5000, some(6000, 3000, 40, 1))
	wantAll(t, 4096, 1<<20, some(20000, 20000, 40, 2))
}
