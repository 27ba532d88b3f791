package grouper_test

import (
	"bytes"
	"math/rand"
	"slices"
	"strconv"
	"strings"
	"testing"

	"aqueduct/api"
	"aqueduct/disk"
	"aqueduct/grouper"
	"aqueduct/ledger"
	"aqueduct/top"
)

const (
	longest = 16 * api.MaxBytes
	others  = 1 << 20 // bytes that somebody else holds
	strange = 3       // pages that somebody else has
)

// tooLong is an item of a byte more than there may be. It is made once: it is refused again and again.
var tooLong = top.Item{Key: make([]byte, longest+1)}

// it is an item of that key and data.
func it(key, data string) top.Item { return top.Item{Key: []byte(key), Data: []byte(data)} }

// parse reads items, each of a key, a colon and data, with blanks between.
func parse(text string) []top.Item {
	var l []top.Item
	for _, w := range strings.Fields(text) {
		key, data, _ := strings.Cut(w, ":")
		l = append(l, it(key, data))
	}
	return l
}

// member is an item with the number of its group.
type member struct {
	item  top.Item
	group int
}

// members reads items, each with the number of its group and a slash ahead of it.
func members(text string) []member {
	var l []member
	for _, w := range strings.Fields(text) {
		number, rest, _ := strings.Cut(w, "/")
		n, _ := strconv.Atoi(number)
		l = append(l, member{parse(rest)[0], n})
	}
	return l
}

// show is members as a short text.
func show(l []member) string {
	var b strings.Builder
	for _, x := range l {
		if b.Len() > 300 {
			return b.String()[:300] + ".."
		}
		b.WriteString(" " + strconv.Itoa(x.group) + "/" + showItem(x.item))
	}
	return b.String()
}

func showItem(x top.Item) string {
	part := func(b []byte) string {
		if b == nil {
			return "none"
		}
		return strconv.QuoteToASCII(string(b[:min(len(b), 40)]))
	}
	return part(x.Key) + ":" + part(x.Data)
}

// showAll is items as a short text.
func showAll(l []top.Item) string {
	var b strings.Builder
	for i, x := range l {
		if i == 12 {
			return b.String() + " .."
		}
		b.WriteString(" " + showItem(x))
	}
	return b.String()
}

// same holds two items against each other, what is nil too.
func same(x, y top.Item) bool {
	return bytes.Equal(x.Key, y.Key) && bytes.Equal(x.Data, y.Data) && (x.Key == nil) == (y.Key == nil) && (x.Data == nil) == (y.Data == nil)
}

func alike(a, b []member) bool {
	return slices.EqualFunc(a, b, func(x, y member) bool { return x.group == y.group && same(x.item, y.item) })
}

// copyOf is an item in lists of its own.
func copyOf(x top.Item) top.Item { return top.Item{Key: bytes.Clone(x.Key), Data: bytes.Clone(x.Data)} }

// noise is n bytes that hang on seed alone.
func noise(n, seed int) []byte {
	b := make([]byte, n)
	rand.New(rand.NewSource(int64(seed))).Read(b)
	return b
}

// grouped is the promise said another way: a list for each key, the lists in the order in which they were begun.
func grouped(all []top.Item) []member {
	numbers := map[string]int{}
	var lists [][]member
	for _, x := range all {
		n, known := numbers[string(x.Key)]
		if !known {
			n = len(lists)
			numbers[string(x.Key)] = n
			lists = append(lists, nil)
		}
		lists[n] = append(lists[n], member{x, n})
	}
	return slices.Concat(lists...)
}

// greatest is how many bytes the greatest of the items has, and 64; 0 of none.
func greatest(l []top.Item) int {
	n := 0
	for _, x := range l {
		n = max(n, len(x.Key)+len(x.Data)+64)
	}
	return n
}

// total is how many bytes those items have together, with 64 each.
func total(l []top.Item) int {
	n := 0
	for _, x := range l {
		n += len(x.Key) + len(x.Data) + 64
	}
	return n
}

// place is a disk and a ledger on which somebody else has something too.
type place struct {
	d *disk.Disk
	l *ledger.Ledger
}

// made is a place of which room bytes of the ledger are left, and of which so many pages are.
func made(t *testing.T, page, room, pages int) place {
	t.Helper()
	d, e := disk.New(page, pages+strange)
	if e != api.OK {
		t.Fatalf("New(%d, %d): %v", page, pages, e)
	}
	holes := min(pages, 2)
	for range strange + holes {
		d.Alloc()
	}
	for i := range holes {
		d.Free(2*i + 1)
	}
	// What somebody else wrote is no page of a Grouper's.
	d.Write(0, make([]byte, page))
	l := ledger.New(room + others)
	l.Take(others)
	return place{d, l}
}

// wantClear has nothing be left of what others do not have.
func (p place) wantClear(t *testing.T, what string) {
	t.Helper()
	if n := p.d.Live() - strange; n != 0 {
		t.Errorf("%s: %d pages are left", what, n)
	}
	if n := p.l.Held(); n != others {
		t.Errorf("%s: %d are held, want %d", what, n, others)
	}
}

// wantWithin has no more been held than may be.
func (p place) wantWithin(t *testing.T, what string, all []top.Item) {
	t.Helper()
	most := p.l.Budget() + 8*p.d.Page() + 8*greatest(all)
	if n := p.l.Most(); n > most {
		t.Errorf("%s: %d were held, want %d at most", what, n, most)
	}
}

func wantErr(t *testing.T, what string, got, want api.Errno) {
	t.Helper()
	if got != want {
		t.Errorf("%s: %v, want %v", what, got, want)
	}
}

func wantSpilled(t *testing.T, what string, g *grouper.Grouper, want bool) {
	t.Helper()
	if got := g.Spilled(); got != want {
		t.Errorf("%s: Spilled is %v, want %v", what, got, want)
	}
}

// wantAdd has Add answer that, and leave its argument as it was.
func wantAdd(t *testing.T, what string, g *grouper.Grouper, x top.Item, want api.Errno) {
	t.Helper()
	was := copyOf(x)
	if e := g.Add(x); e != want {
		t.Errorf("%s: Add of %s: %v, want %v", what, showItem(was), e, want)
	}
	if !same(x, was) {
		t.Errorf("%s: Add of %s has changed it", what, showItem(was))
	}
}

// wantAdds has all be added.
func wantAdds(t *testing.T, what string, g *grouper.Grouper, all []top.Item) {
	t.Helper()
	for _, x := range all {
		wantAdd(t, what, g, x, api.OK)
	}
}

// wantNext has Next answer that item, of the group of that number.
func wantNext(t *testing.T, what string, g *grouper.Grouper, want member) {
	t.Helper()
	x, n, ok, e := g.Next()
	if got := (member{x, n}); !alike([]member{got}, []member{want}) || !ok || e != api.OK {
		t.Errorf("%s: Next is%s, %v, %v, want%s", what, show([]member{got}), ok, e, show([]member{want}))
	}
}

// wantNone has Next answer nothing but that error.
func wantNone(t *testing.T, what string, g *grouper.Grouper, want api.Errno) {
	t.Helper()
	x, n, ok, e := g.Next()
	if x.Key != nil || x.Data != nil || n != 0 || ok || e != want {
		t.Errorf("%s: Next is%s, %v, %v, want nothing and %v", what, show([]member{{x, n}}), ok, e, want)
	}
}

// wantOver has each call be told ErrState, twice, and Close do nothing.
func wantOver(t *testing.T, what string, g *grouper.Grouper) {
	t.Helper()
	spilled := g.Spilled()
	for range 2 {
		wantAdd(t, what, g, it("over", "over"), api.ErrState)
		wantErr(t, what+": Add of one too long", g.Add(tooLong), api.ErrState)
		wantErr(t, what+": End", g.End(), api.ErrState)
		wantNone(t, what, g, api.ErrState)
		g.Close()
		wantSpilled(t, what, g, spilled)
	}
}

// wantRest has Next bring those items and then false, again and again.
func wantRest(t *testing.T, what string, g *grouper.Grouper, want []member) {
	t.Helper()
	for _, x := range want {
		wantNext(t, what, g, x)
		if t.Failed() {
			t.FailNow()
		}
	}
	for range 3 {
		wantNone(t, what+", behind the last", g, api.OK)
	}
}

// wantAll has those items be grouped, with so much room in the ledger, and all promises hold on the way. It answers whether pages were written.
func wantAll(t *testing.T, page, room int, all []top.Item) bool {
	t.Helper()
	what := "page " + strconv.Itoa(page) + ", room " + strconv.Itoa(room) + ", of " + strconv.Itoa(len(all)) + showAll(all)
	p := made(t, page, room, 12000)
	writes := p.d.Writes()
	g := grouper.New(p.d, p.l)
	check := func() {
		t.Helper()
		wantSpilled(t, what, g, p.d.Writes() > writes)
		if t.Failed() {
			t.FailNow()
		}
	}
	check()
	for _, x := range all {
		wantAdd(t, what, g, x, api.OK)
		check()
	}
	wantErr(t, what+": End", g.End(), api.OK)
	check()
	for _, x := range grouped(all) {
		wantNext(t, what, g, x)
		check()
	}
	for range 2 {
		wantNone(t, what+", behind the last", g, api.OK)
		p.wantClear(t, what)
	}
	p.wantWithin(t, what, all)
	if total(all) <= room {
		wantSpilled(t, what+", which all Fit", g, false)
	}
	wantAdd(t, what+", behind the last", g, it("late", "late"), api.ErrState)
	wantErr(t, what+", behind the last: End", g.End(), api.ErrState)
	g.Close()
	wantOver(t, what+", closed", g)
	p.wantClear(t, what+", closed")
	check()
	return p.d.Writes() > writes
}

// some are items, those of one key told apart by their data.
func some(n, keys, size, seed int) []top.Item {
	r := rand.New(rand.NewSource(int64(seed)))
	l := make([]top.Item, n)
	for i := range l {
		l[i] = top.Item{Key: []byte("k" + strconv.Itoa(r.Intn(keys))), Data: append([]byte(strconv.Itoa(i)), noise(r.Intn(size+1), i)...)}
	}
	return l
}
