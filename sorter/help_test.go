package sorter_test

import (
	"bytes"
	"math/rand"
	"slices"
	"strconv"
	"strings"
	"testing"

	"aqueduct/api"
	"aqueduct/disk"
	"aqueduct/ledger"
	"aqueduct/sorter"
	"aqueduct/top"
)

const (
	longest = 16 * api.MaxBytes
	others  = 1 << 20 // bytes that somebody else holds
	strange = 3       // pages that somebody else has
)

// it is an item of that key and data.
func it(key, data string) top.Item { return top.Item{Key: []byte(key), Data: []byte(data)} }

// parse reads items, each of a key, a colon and data, with blanks between.
func parse(text string) []top.Item {
	var l []top.Item
	for _, w := range strings.Fields(text) {
		key, data, _ := strings.Cut(w, ":")
		l = append(l, it(key, data))
	}
	return l
}

// show is items as a short text.
func show(l []top.Item) string {
	var b strings.Builder
	for _, x := range l {
		if b.Len() > 300 {
			return b.String()[:300] + ".."
		}
		b.WriteString(" " + strconv.QuoteToASCII(string(x.Key)) + ":" + strconv.QuoteToASCII(string(x.Data)))
	}
	return b.String()
}

// same holds two items against each other, what is nil too.
func same(x, y top.Item) bool {
	return bytes.Equal(x.Key, y.Key) && bytes.Equal(x.Data, y.Data) && (x.Key == nil) == (y.Key == nil) && (x.Data == nil) == (y.Data == nil)
}

func alike(a, b []top.Item) bool { return slices.EqualFunc(a, b, same) }

// copies are items in lists of their own.
func copies(l []top.Item) []top.Item {
	out := make([]top.Item, len(l))
	for i, x := range l {
		out[i] = top.Item{Key: bytes.Clone(x.Key), Data: bytes.Clone(x.Data)}
	}
	return out
}

// noise is n bytes that hang on seed alone.
func noise(n, seed int) []byte {
	b := make([]byte, n)
	rand.New(rand.NewSource(int64(seed))).Read(b)
	return b
}

// sorted is the promise said another way.
func sorted(all []top.Item) []top.Item {
	l := slices.Clone(all)
	slices.SortStableFunc(l, func(x, y top.Item) int { return strings.Compare(string(x.Key), string(y.Key)) })
	return l
}

// charge is what an item is charged with while it is held.
func charge(x top.Item) int { return len(x.Key) + len(x.Data) + 32 }

// greatest is the charge of the greatest of the items.
func greatest(l []top.Item) int {
	n := 0
	for _, x := range l {
		n = max(n, charge(x))
	}
	return n
}

// total is what those items are charged with together.
func total(l []top.Item) int {
	n := 0
	for _, x := range l {
		n += charge(x)
	}
	return n
}

// tally tells how many runs are made, and how much is held, as items come where the ledger has so much room.
type tally struct{ room, runs, count, held int }

func (y *tally) add(x top.Item) {
	if y.count > 0 && y.held+charge(x) > y.room {
		*y = tally{room: y.room, runs: y.runs + 1}
	}
	y.count++
	y.held += charge(x)
}

// sort tells that no more comes.
func (y *tally) sort() {
	if y.runs > 0 {
		y.runs++
	}
}

// runsOf is how many runs those items make.
func runsOf(l []top.Item, room int) int {
	y := tally{room: room}
	for _, x := range l {
		y.add(x)
	}
	y.sort()
	return y.runs
}

// place is a disk and a ledger on which somebody else has something too.
type place struct {
	d *disk.Disk
	l *ledger.Ledger
}

// made is a place of which room bytes of the ledger are left, and of which so many pages are.
func made(t *testing.T, page, room, pages int) place {
	t.Helper()
	d, e := disk.New(page, pages+strange)
	if e != api.OK {
		t.Fatalf("New(%d, %d): %v", page, pages, e)
	}
	holes := min(pages, 2)
	for range strange + holes {
		d.Alloc()
	}
	for i := range holes {
		d.Free(2*i + 1)
	}
	l := ledger.New(room + others)
	l.Take(others)
	return place{d, l}
}

// wantClear has nothing be left of what others do not have.
func (p place) wantClear(t *testing.T, what string) {
	t.Helper()
	if n := p.d.Live() - strange; n != 0 {
		t.Errorf("%s: %d pages are left", what, n)
	}
	if n := p.l.Held(); n != others {
		t.Errorf("%s: %d are held, want %d", what, n, others)
	}
}

// wantWithin has no more been held than may be.
func (p place) wantWithin(t *testing.T, what string, all []top.Item) {
	t.Helper()
	most := p.l.Budget() + 8*p.d.Page()
	if len(all) > 0 {
		most += 4 * (greatest(all) - 32 + 64)
	}
	if n := p.l.Most(); n > most {
		t.Errorf("%s: %d were held, want %d at most", what, n, most)
	}
}

func wantErr(t *testing.T, what string, got, want api.Errno) {
	t.Helper()
	if got != want {
		t.Errorf("%s: %v, want %v", what, got, want)
	}
}

func wantRuns(t *testing.T, what string, s *sorter.Sorter, want int) {
	t.Helper()
	if n := s.Runs(); n != want {
		t.Errorf("%s: Runs is %d, want %d", what, n, want)
	}
}

// wantAdd has Add answer that, and leave its argument as it was.
func wantAdd(t *testing.T, what string, s *sorter.Sorter, x top.Item, want api.Errno) {
	t.Helper()
	was := copies([]top.Item{x})
	if e := s.Add(x); e != want {
		t.Errorf("%s: Add of%s: %v, want %v", what, show(was), e, want)
	}
	if !same(x, was[0]) {
		t.Errorf("%s: Add of%s has changed it", what, show(was))
	}
}

// wantNext has Next answer that.
func wantNext(t *testing.T, what string, s *sorter.Sorter, x top.Item, ok bool, e api.Errno) {
	t.Helper()
	got, gotOk, gotE := s.Next()
	if !same(got, x) || gotOk != ok || gotE != e {
		t.Errorf("%s: Next is%s, %v, %v, want%s, %v, %v", what, show([]top.Item{got}), gotOk, gotE, show([]top.Item{x}), ok, e)
	}
}

// wantOver has each call be told ErrState, twice, and Close do nothing.
func wantOver(t *testing.T, what string, s *sorter.Sorter) {
	t.Helper()
	runs := s.Runs()
	for range 2 {
		wantAdd(t, what, s, it("over", "over"), api.ErrState)
		wantErr(t, what+": Add of one too long", s.Add(top.Item{Key: make([]byte, longest+1)}), api.ErrState)
		wantErr(t, what+": Sort", s.Sort(), api.ErrState)
		wantNext(t, what, s, top.Item{}, false, api.ErrState)
		s.Close()
		wantRuns(t, what, s, runs)
	}
}

// wantRest has Next bring those items and then false, again and again.
func wantRest(t *testing.T, what string, s *sorter.Sorter, want []top.Item) {
	t.Helper()
	for _, x := range want {
		wantNext(t, what, s, x, true, api.OK)
		if t.Failed() {
			t.FailNow()
		}
	}
	for range 3 {
		wantNext(t, what+", behind the last", s, top.Item{}, false, api.OK)
	}
}

// wantAll has those items be sorted, with so much room in the ledger, and all promises hold on the way. It answers how many operations of the disk that took.
func wantAll(t *testing.T, page, room int, all []top.Item) int {
	t.Helper()
	what := "page " + strconv.Itoa(page) + ", room " + strconv.Itoa(room) + ", of " + strconv.Itoa(len(all)) + show(all)
	p := made(t, page, room, 8000)
	before := p.d.Ops()
	s := sorter.New(p.d, p.l)
	y := tally{room: room}
	for i, x := range all {
		wantAdd(t, what, s, x, api.OK)
		y.add(x)
		wantRuns(t, what, s, y.runs)
		if n := p.l.Held(); n != others+y.held {
			t.Errorf("%s: behind %d %d are held, want %d", what, i, n, others+y.held)
		}
		if t.Failed() {
			t.FailNow()
		}
	}
	wantErr(t, what+": Sort", s.Sort(), api.OK)
	y.sort()
	wantRuns(t, what, s, y.runs)
	wantRest(t, what, s, sorted(all))
	p.wantClear(t, what)
	p.wantWithin(t, what, all)
	wantRuns(t, what+", at the end", s, y.runs)
	wantErr(t, what+": Sort at the end", s.Sort(), api.ErrState)
	wantAdd(t, what+", at the end", s, it("more", "more"), api.ErrState)
	wantNext(t, what+", at the end", s, top.Item{}, false, api.OK)
	s.Close()
	wantOver(t, what+", closed", s)
	p.wantClear(t, what+", closed")
	if t.Failed() {
		t.FailNow()
	}
	return p.d.Ops() - before
}

// some are items, those of one key told apart by their data.
func some(n, keys, size, seed int) []top.Item {
	r := rand.New(rand.NewSource(int64(seed)))
	l := make([]top.Item, n)
	for i := range l {
		l[i] = top.Item{Key: []byte("k" + strconv.Itoa(r.Intn(keys))), Data: append([]byte(strconv.Itoa(i)), noise(r.Intn(size+1), i)...)}
	}
	return l
}
