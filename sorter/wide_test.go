package sorter_test

import (
	"math/rand"
	"strconv"
	"testing"

	"aqueduct/api"
	"aqueduct/disk"
	"aqueduct/sorter"
	"aqueduct/top"
)

// TestWideTakesMore has items of just so many bytes as may be, and of one more, spilled and not.
func TestWideTakesMore(t *testing.T) {
	const most = longest + sorter.Spare
	for _, room := range []int{0, api.MaxBudget - others} {
		for _, key := range []int{0, 1, longest / 2, longest + 1, most} {
			p := made(t, 4096, room, 3000)
			s := sorter.Wide(p.d, p.l)
			all := []top.Item{
				{Key: noise(key, 1), Data: noise(most-key, 2)},
				it("m", "short"),
				{Key: noise(key, 1), Data: noise(most-key, 3)},
			}
			for i, x := range all {
				wantErr(t, "Add of "+strconv.Itoa(i), s.Add(x), api.OK)
				wantErr(t, "a byte of data more", s.Add(top.Item{Key: noise(key, 1), Data: make([]byte, most-key+1)}), api.ErrLong)
				wantErr(t, "a byte of the key more", s.Add(top.Item{Key: make([]byte, key+1), Data: make([]byte, most-key)}), api.ErrLong)
			}
			wantErr(t, "Sort", s.Sort(), api.OK)
			wantRest(t, "wide", s, sorted(all))
			p.wantClear(t, "wide")
			p.wantWithin(t, "wide", all)
		}
	}
}

// TestWideOfNothing is none, as New's.
func TestWideOfNothing(t *testing.T) {
	p := made(t, 64, 0, 0)
	for _, s := range []*sorter.Sorter{sorter.Wide(nil, nil), sorter.Wide(p.d, nil), sorter.Wide(nil, p.l)} {
		if s != nil {
			t.Errorf("Wide: %v", s)
		}
		wantErr(t, "SortToOne", s.SortToOne(), api.ErrArg)
	}
	wantErr(t, "SortToOne", new(sorter.Sorter).SortToOne(), api.ErrArg)
}

// wantToOne has those items be sorted from one run: as Sort has them, and with no more held while they are brought than a page and an item, if there is a run.
func wantToOne(t *testing.T, page, room int, all []top.Item) {
	t.Helper()
	what := "page " + strconv.Itoa(page) + ", room " + strconv.Itoa(room) + ", of " + strconv.Itoa(len(all)) + show(all)
	p := made(t, page, room, 8000)
	s := sorter.Wide(p.d, p.l)
	for _, x := range all {
		wantAdd(t, what, s, x, api.OK)
	}
	wantErr(t, what+": SortToOne", s.SortToOne(), api.OK)
	wantRuns(t, what, s, runsOf(all, room))
	wantErr(t, what+": SortToOne twice", s.SortToOne(), api.ErrState)
	wantErr(t, what+": Sort", s.Sort(), api.ErrState)
	for _, x := range sorted(all) {
		if n := p.l.Held() - others; s.Runs() > 0 && n > page+greatest(all) {
			t.Errorf("%s: %d are held", what, n)
		}
		wantNext(t, what, s, x, true, api.OK)
		if t.Failed() {
			t.FailNow()
		}
		// Between two calls what was brought is held no more, and what comes next was not read yet.
		if n := p.l.Held() - others; s.Runs() > 0 && n > page {
			t.Errorf("%s: %d are held between", what, n)
		}
	}
	wantRest(t, what, s, nil)
	p.wantClear(t, what)
	p.wantWithin(t, what, all)
	wantErr(t, what+": SortToOne behind the last", s.SortToOne(), api.ErrState)
	s.Close()
	wantErr(t, what+": SortToOne behind Close", s.SortToOne(), api.ErrState)
}

func TestSortToOne(t *testing.T) {
	wantToOne(t, 64, 0, nil)
	wantToOne(t, 64, 0, parse("a:1"))
	wantToOne(t, 64, 0, parse("b:1 a:2"))
	r := rand.New(rand.NewSource(8))
	for i := range 500 {
		all := some(r.Intn(1<<r.Intn(9)), 1+r.Intn(50), 1<<r.Intn(8), i)
		wantToOne(t, 64<<r.Intn(4), r.Intn(1<<(1+r.Intn(14))), all)
	}
}

// TestSortToOneMergesAllThatFit has as many runs as are merged at once: each item is written once more, and not more often.
func TestSortToOneMergesAllThatFit(t *testing.T) {
	const page, charged, record = 64, 100, 4 + 4 + 100 - 32
	for runs := 2; runs < 12; runs++ {
		all := alikeSized(runs, charged)
		p, s := spilt(t, page, runs*(page+charged), all)
		writes := p.d.Writes()
		wantErr(t, "SortToOne", s.SortToOne(), api.OK)
		if n, want := p.d.Writes()-writes, pagesOf(page, 1, record)+pagesOf(page, runs, record); n != want {
			t.Errorf("%d runs: %d pages were written, want %d", runs, n, want)
		}
		wantRest(t, "to one", s, sorted(all))
		p.wantClear(t, "to one")
	}
}

// TestSortToOneWithFaults has each sort of fault at each operation: the items, or its error.
func TestSortToOneWithFaults(t *testing.T) {
	all := few()
	for _, room := range spilling() {
		for at := range 200 {
			for kind := disk.Read; kind <= disk.Turn; kind++ {
				p := made(t, 64, room, 100)
				p.d.Plan([]disk.Fault{{At: at, Kind: kind}})
				s := sorter.Wide(p.d, p.l)
				var c course
				for _, x := range all {
					if c.e == api.OK {
						c.e = s.Add(x)
					}
				}
				if c.e == api.OK {
					c.e = s.SortToOne()
				}
				for ok := true; ok && c.e == api.OK; {
					var x top.Item
					if x, ok, c.e = s.Next(); ok {
						c.items = append(c.items, x)
					}
				}
				c.runs = s.Runs()
				what := "room " + strconv.Itoa(room) + ", fault " + strconv.Itoa(kind) + " at " + strconv.Itoa(at)
				if c.e == api.OK {
					if !alike(c.items, sorted(all)) {
						t.Errorf("%s: brought%s", what, show(c.items))
					}
					p.wantClear(t, what)
					continue
				}
				wantErr(t, what, c.e, map[int]api.Errno{disk.Read: api.ErrIO, disk.Write: api.ErrIO, disk.Full: api.ErrFull, disk.Turn: api.ErrSum}[kind])
				wantBroken(t, what, p, s, c, all)
			}
		}
	}
}
