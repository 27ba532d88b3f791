package grouper_test

import (
	"math/rand"
	"slices"
	"strconv"
	"testing"

	"aqueduct/api"
	"aqueduct/grouper"
	"aqueduct/top"
)

// rooms are those that matter for the items: nought, a few bytes, what each beginning of them needs, a byte fewer, a byte more, more than all.
func rooms(all []top.Item) []int {
	l := []int{0, 1, 32, 63, 64, 65, 100, 200, 500, 1000, api.MaxBudget - others}
	for i := range all {
		n := total(all[:i+1])
		l = append(l, n-1, n, n+1)
	}
	slices.Sort(l)
	return slices.Compact(l)
}

// wantAnyhow has those items be grouped whatever the room and the page's size.
func wantAnyhow(t *testing.T, all []top.Item) {
	t.Helper()
	for _, page := range []int{64, 128, 4096} {
		for _, room := range rooms(all) {
			wantAll(t, page, room, all)
		}
	}
}

// wantGroups has the items of the text be brought as want says.
func wantGroups(t *testing.T, all, want string) {
	t.Helper()
	if l := grouped(parse(all)); !alike(l, members(want)) {
		t.Errorf("%s: want%s", all, show(l))
	}
	wantAnyhow(t, parse(all))
}

// TestExample is the chapter's.
func TestExample(t *testing.T) {
	for _, room := range []int{0, 100, 1000} {
		p := made(t, 64, room, 100)
		g := grouper.New(p.d, p.l)
		wantAdds(t, "example", g, parse("b:1 a:2 b:3"))
		wantErr(t, "End", g.End(), api.OK)
		wantRest(t, "example", g, members("0/b:1 0/b:3 1/a:2"))
	}
}

// TestFew has no item, one, two.
func TestFew(t *testing.T) {
	wantGroups(t, "", "")
	wantGroups(t, "a:1", "0/a:1")
	wantGroups(t, ":", "0/:")
	wantGroups(t, "a:1 b:2", "0/a:1 1/b:2")
	wantGroups(t, "b:1 a:2", "0/b:1 1/a:2")
	wantGroups(t, "a:2 a:1", "0/a:2 0/a:1")
	wantGroups(t, "c:1 a:2 c:3", "0/c:1 0/c:3 1/a:2")
	wantGroups(t, "c:1 a:2 b:3", "0/c:1 1/a:2 2/b:3")
}

// TestAllAlike has one key.
func TestAllAlike(t *testing.T) {
	wantGroups(t, "a:5 a:1 a:4 a:1 a:3 a:9 a:2 a:6", "0/a:5 0/a:1 0/a:4 0/a:1 0/a:3 0/a:9 0/a:2 0/a:6")
	wantGroups(t, "x:same x:same x:same x:same", "0/x:same 0/x:same 0/x:same 0/x:same")
	wantGroups(t, ":3 :1 :2", "0/:3 0/:1 0/:2")
	for _, room := range []int{0, 100, 400, 1000, 3000, 20000} {
		wantAll(t, 64, room, some(150, 1, 20, room))
		wantAll(t, 256, room, some(400, 1, 100, room))
	}
}

// TestAsManyKeysAsItems has each key once, rising, falling and mixed.
func TestAsManyKeysAsItems(t *testing.T) {
	wantGroups(t, "f:1 c:2 g:3 a:4 b:5 e:6 d:7", "0/f:1 1/c:2 2/g:3 3/a:4 4/b:5 5/e:6 6/d:7")
	const n = 120
	var rising, falling, mixed []top.Item
	for i := range n {
		rising = append(rising, it(strconv.Itoa(1000+i), strconv.Itoa(i)))
		falling = append(falling, it(strconv.Itoa(2000-i), strconv.Itoa(i)))
		mixed = append(mixed, it(strconv.Itoa(1000+i*77%n), strconv.Itoa(i)))
	}
	for _, all := range [][]top.Item{rising, falling, mixed} {
		if l := grouped(all); l[n-1].group != n-1 {
			t.Fatalf("%d groups", l[n-1].group+1)
		}
		for _, room := range []int{0, 100, 300, 1000, 2000, 6000, 20000} {
			wantAll(t, 64, room, all)
		}
	}
}

// TestByTurns has groups whose items come by turns, and far from one another.
func TestByTurns(t *testing.T) {
	wantGroups(t, "c:1 a:2 b:3 c:4 a:5 b:6 c:7 a:8 b:9", "0/c:1 0/c:4 0/c:7 1/a:2 1/a:5 1/a:8 2/b:3 2/b:6 2/b:9")
	wantGroups(t, "d:1 c:2 b:3 a:4 a:5 b:6 c:7 d:8", "0/d:1 0/d:8 1/c:2 1/c:7 2/b:3 2/b:6 3/a:4 3/a:5")
	var far []top.Item
	for i := range 200 {
		far = append(far, it(strconv.Itoa(i*37%100), strconv.Itoa(i)))
	}
	pair := slices.Concat(parse("z:first"), some(150, 40, 10, 3), parse("z:last"))
	for _, room := range []int{0, 150, 700, 2000, 8000} {
		wantAll(t, 64, room, far)
		wantAll(t, 64, room, pair)
	}
}

// TestKeysAsBytes has keys of which one is the beginning of another, the empty one, and bytes at their borders.
func TestKeysAsBytes(t *testing.T) {
	wantGroups(t, "abc:1 ab:2 a:3 :4 ab:5 abc:6 :7 a:8 abcd:9", "0/abc:1 0/abc:6 1/ab:2 1/ab:5 2/a:3 2/a:8 3/:4 3/:7 4/abcd:9")
	// A key and data that are together what others are.
	wantGroups(t, "ab:c a:bc abc: :abc ab:c a:bc", "0/ab:c 0/ab:c 1/a:bc 1/a:bc 2/abc: 3/:abc")
	borders := []string{"\xff\xff\x00", "\xff\xff", "\xff\x80", "\xff\x00", "\xff", "\x80\x7f", "\x80\x00", "\x80", "\x7f\xff", "\x7f\x00", "\x7f", "\x00\xff", "\x00\x7f", "\x00\x00", "\x00", ""}
	var all []top.Item
	for i := range 3 * len(borders) {
		all = append(all, it(borders[i*7%len(borders)], strconv.Itoa(i)))
	}
	for _, room := range []int{0, 70, 200, 500, 5000} {
		wantAll(t, 64, room, all)
		wantAll(t, 512, room, all)
	}
}

// TestNone has keys and data that are nil beside those that are empty: they are of one group, and come as they were added, spilled or not.
func TestNone(t *testing.T) {
	none, empty := top.Item{}, it("", "")
	wantAnyhow(t, []top.Item{none})
	wantAnyhow(t, []top.Item{empty})
	wantAnyhow(t, []top.Item{none, empty, none, empty})
	mixed := []top.Item{it("a", "1"), {Data: []byte("none")}, it("", "empty"), {Key: []byte("a")}, it("a", ""), none, it("b", "")}
	want := []member{{mixed[0], 0}, {mixed[3], 0}, {mixed[4], 0}, {mixed[1], 1}, {mixed[2], 1}, {none, 1}, {mixed[6], 2}}
	if l := grouped(mixed); !alike(l, want) {
		t.Errorf("want%s", show(l))
	}
	wantAnyhow(t, mixed)
}

// TestData has data and keys of each length about a page's and the next one's, so that records are cut everywhere.
func TestData(t *testing.T) {
	var all []top.Item
	for n := range 140 {
		all = append(all, top.Item{Key: noise(n%9, n%4), Data: noise(n, n)}, top.Item{Key: noise(n, n), Data: noise(n%5, n)}, top.Item{Key: noise(n, n), Data: noise(3, n)})
	}
	for _, room := range []int{0, 500, 2000, 10000, 100000} {
		wantAll(t, 64, room, all)
		wantAll(t, 128, room, all)
	}
}

// TestRowsOfFewKeys has each row of up to six of three keys.
func TestRowsOfFewKeys(t *testing.T) {
	keys := []string{"", "a", "ab"}
	for n := range 7 {
		count := 1
		for range n {
			count *= len(keys)
		}
		for code := range count {
			var all []top.Item
			for i := range n {
				all = append(all, it(keys[code%3], strconv.Itoa(i)))
				code /= 3
			}
			for _, room := range []int{0, 140, 1000} {
				wantAll(t, 64, room, all)
			}
		}
	}
}

// TestAnyItems has items at random, over any room and page.
func TestAnyItems(t *testing.T) {
	r := rand.New(rand.NewSource(15))
	for i := range 1200 {
		n := r.Intn(1 << r.Intn(8))
		all := some(n, 1+r.Intn(1<<r.Intn(8)), 1<<r.Intn(8), i)
		for j := range all {
			switch r.Intn(12) {
			case 0:
				all[j].Data = nil
			case 1:
				all[j].Key = noise(r.Intn(100), r.Intn(3))
			case 2:
				all[j].Key = all[j].Key[:r.Intn(len(all[j].Key))]
			case 3:
				all[j].Key = nil
			}
		}
		wantAll(t, 64<<r.Intn(7), r.Intn(1<<(1+r.Intn(14))), all)
	}
}

// TestMany has thousands of items, of which few go into the budget.
func TestMany(t *testing.T) {
	for _, room := range []int{0, 300, 700, 2000} {
		wantAll(t, 64, room, some(1500, 300, 10, room))
	}
	wantAll(t, 256, 5000, some(6000, 3000, 40, 1))
	wantAll(t, 4096, 20000, some(6000, 10, 40, 2))
	wantAll(t, 4096, 1<<20, some(20000, 20000, 40, 3))
	// Groups whose first item comes so late that its number takes three bytes.
	wantAll(t, 4096, 1<<18, slices.Concat(some(1<<16, 40, 1, 4), parse("new:1 newer:2 new:3 k1:4")))
}

// TestFarMoreThanPagesForOneEach has more items than the disk has pages, and a budget of a few pages: runs are of several items in both sorts.
func TestFarMoreThanPagesForOneEach(t *testing.T) {
	all := some(20000, 7000, 20, 5)
	for _, room := range []int{8192, 3 * 4096, 1 << 16} {
		wantAll(t, 4096, room, all)
	}
}
