package sorter_test

import (
	"strconv"
	"testing"

	"aqueduct/api"
	"aqueduct/ledger"
	"aqueduct/seal"
	"aqueduct/sorter"
	"aqueduct/top"
)

// alikeSized are n items of which each is charged with so much, their keys falling.
func alikeSized(n, charged int) []top.Item {
	l := make([]top.Item, n)
	for i := range l {
		l[i] = top.Item{Key: []byte{byte(n - i>>8), byte(n - i)}, Data: noise(charged-32-2, i)}
	}
	return l
}

// spilt adds the items, each to a run of its own as the ledger has no room, and answers the place with so much room made behind that.
func spilt(t *testing.T, page, room int, all []top.Item) (place, *sorter.Sorter) {
	t.Helper()
	p := made(t, page, room, 8000)
	p.l.Take(room)
	s := sorter.New(p.d, p.l)
	for _, x := range all {
		wantAdd(t, "spilt", s, x, api.OK)
	}
	wantRuns(t, "spilt", s, len(all)-1)
	p.l.Give(room)
	return p, s
}

// pagesOf is how many pages a run takes of records that take so many bytes each.
func pagesOf(page, records, bytes int) int {
	return (records*bytes + seal.Room(page) - 1) / seal.Room(page)
}

// TestAsManyAsFitAreMerged has runs of one item each, room for so many of them with a page each, or for a byte fewer: Sort writes what is merged ahead of the last merge, and that holds a page and an item for each of its runs.
func TestAsManyAsFitAreMerged(t *testing.T) {
	const charged = 100
	for _, page := range []int{64, 256} {
		each := page + charged
		for runs := 2; runs < 12; runs++ {
			for most := 2; most < 14; most++ {
				for _, less := range []int{0, 1, each - 1} {
					room := most*each - less
					once := most
					if less > 0 {
						once = max(most-1, 2)
					}
					what := "page " + strconv.Itoa(page) + ", " + strconv.Itoa(runs) + " runs, " + strconv.Itoa(once) + " at once"
					all := alikeSized(runs, charged)
					p, s := spilt(t, page, room, all)
					writes := p.d.Writes()
					wantErr(t, what, s.Sort(), api.OK)
					if runs <= once {
						last := pagesOf(page, 1, 4+4+charged-32)
						if n := p.d.Writes() - writes; n != last {
							t.Errorf("%s: %d pages were written, want the last run's %d alone", what, n, last)
						}
						if n := p.l.Held() - others; n != runs*each {
							t.Errorf("%s: %d are held, want %d", what, n, runs*each)
						}
					} else {
						if n := p.l.Held() - others; n%each != 0 || n/each < 2 || n/each > once {
							t.Errorf("%s: %d are held, want from 2 to %d times %d", what, n, once, each)
						}
						if p.d.Writes() == writes {
							t.Errorf("%s: nothing was merged ahead", what)
						}
					}
					wantRuns(t, what, s, runs)
					wantRest(t, what, s, sorted(all))
					p.wantClear(t, what)
					p.wantWithin(t, what, all)
				}
			}
		}
	}
}

// TestMergeTakesAllThatFit has one run more than are merged at once: then that many become one, and two are left.
func TestMergeTakesAllThatFit(t *testing.T) {
	const page, charged, record = 64, 100, 4 + 4 + 100 - 32
	each := page + charged
	for once := 2; once < 12; once++ {
		all := alikeSized(once+1, charged)
		p, s := spilt(t, page, once*each, all)
		writes := p.d.Writes()
		wantErr(t, "Sort", s.Sort(), api.OK)
		if n, want := p.d.Writes()-writes, pagesOf(page, 1, record)+pagesOf(page, once, record); n != want {
			t.Errorf("%d at once: %d pages were written, want %d", once, n, want)
		}
		if n := p.l.Held() - others; n != 2*each {
			t.Errorf("%d at once: %d are held, want %d", once, n, 2*each)
		}
		wantRest(t, "one more", s, sorted(all))
		p.wantClear(t, "one more")
	}
}

// TestGreatestThatWasAdded tells how many are merged, also where it was added early, or refused.
func TestGreatestThatWasAdded(t *testing.T) {
	const page, charged = 64, 100
	for _, at := range []int{-1, 0, 3, 6} {
		all := alikeSized(7, charged)
		each := page + charged
		if at >= 0 {
			all[at].Data = noise(500, 1)
			each = page + greatest(all)
		}
		for _, less := range []int{0, 1} {
			p := made(t, page, 7*each-less, 8000)
			p.l.Take(7*each - less)
			s := sorter.New(p.d, p.l)
			for _, x := range all {
				wantAdd(t, "greatest", s, x, api.OK)
				wantErr(t, "too long", s.Add(top.Item{Data: make([]byte, longest+1)}), api.ErrLong)
			}
			p.l.Give(7*each - less)
			writes := p.d.Writes()
			wantErr(t, "Sort", s.Sort(), api.OK)
			last := pagesOf(page, 1, 4+4+charge(all[6])-32)
			if n := p.d.Writes() - writes; (n == last) != (less == 0) {
				t.Errorf("greatest at %d, %d less: %d pages were written, the last run has %d", at, less, n, last)
			}
			wantRest(t, "greatest", s, sorted(all))
		}
	}
}

// TestHeldByOthersCounts has the ledger's room taken and given by others on the way.
func TestHeldByOthersCounts(t *testing.T) {
	all := alikeSized(9, 100)
	p := made(t, 64, 300, 100)
	s := sorter.New(p.d, p.l)
	add := func(i, runs int) {
		t.Helper()
		wantAdd(t, "others", s, all[i], api.OK)
		wantRuns(t, "item "+strconv.Itoa(i), s, runs)
	}
	add(0, 0)
	add(1, 0)
	p.l.Take(1)
	add(2, 1)
	p.l.Take(200)
	add(3, 2)
	add(4, 3)
	p.l.Give(201)
	add(5, 3)
	add(6, 3)
	p.l.Take(5000)
	add(7, 4)
	wantErr(t, "Sort", s.Sort(), api.OK)
	wantRuns(t, "others", s, 5)
	p.l.Give(5000)
	wantRest(t, "others", s, sorted(all[:8]))
	p.wantClear(t, "others")
}

// TestHeldIsGivenBackAsItComes has no run: what was brought is held no more.
func TestHeldIsGivenBackAsItComes(t *testing.T) {
	all := few()
	p := made(t, 64, total(all), 0)
	s := sorter.New(p.d, p.l)
	for _, x := range all {
		wantAdd(t, "all", s, x, api.OK)
	}
	wantErr(t, "Sort", s.Sort(), api.OK)
	rest := sorted(all)
	for i, x := range rest {
		if n := p.l.Held() - others; n != total(rest[i:]) {
			t.Errorf("ahead of %d: %d are held, want %d", i, n, total(rest[i:]))
		}
		wantNext(t, "all", s, x, true, api.OK)
	}
	p.wantClear(t, "all")
	wantRuns(t, "all", s, 0)
}

// TestHeldWithinAtEachStep has what is held asked behind each call, over rooms of all sizes and one item far greater than the others.
func TestHeldWithinAtEachStep(t *testing.T) {
	for _, page := range []int{64, 1024} {
		for _, big := range []int{-1, 0, 20, 39} {
			for _, room := range []int{0, 50, 200, 600, 1300, 2500, 5000} {
				all := some(40, 15, 30, room)
				if big >= 0 {
					all[big].Data = noise(3000, big)
				}
				wantAll(t, page, room, all)
			}
		}
	}
}

// TestLedgerThatHoldsAllItCan takes nothing more, so that nothing is given back that was not taken.
func TestLedgerThatHoldsAllItCan(t *testing.T) {
	for _, room := range []int{0, 20, 63, 64, 70, 101, 140, 300, 1000} {
		p := made(t, 64, 0, 100)
		l := ledger.New(0)
		for l.Take(api.MaxBudget) {
		}
		l.Give(room)
		held := l.Held()
		for range 3 {
			s := sorter.New(p.d, l)
			for _, x := range few() {
				wantAdd(t, "full", s, x, api.OK)
			}
			wantRuns(t, "full", s, len(few())-1)
			wantErr(t, "Sort", s.Sort(), api.OK)
			wantRest(t, "full", s, sorted(few()))
			if n := l.Held(); n != held {
				t.Errorf("room %d: %d are held more than ahead", room, n-held)
			}
			s = sorter.New(p.d, l)
			for _, x := range few() {
				s.Add(x)
			}
			s.Sort()
			s.Next()
			s.Close()
			if n := l.Held(); n != held {
				t.Errorf("room %d, closed: %d are held more than ahead", room, n-held)
			}
		}
		p.wantClear(t, "full")
	}
}

// TestAnyBudget has ledgers of budgets that are none.
func TestAnyBudget(t *testing.T) {
	for _, budget := range []int{-1 << 62, -1, 0, 1, api.MaxBudget, api.MaxBudget + 1, 1 << 62} {
		p := made(t, 64, 0, 100)
		l := ledger.New(budget)
		s := sorter.New(p.d, l)
		for _, x := range few() {
			wantAdd(t, "any", s, x, api.OK)
		}
		wantErr(t, "Sort", s.Sort(), api.OK)
		wantRuns(t, "budget "+strconv.Itoa(budget), s, runsOf(few(), l.Budget()))
		wantRest(t, "any", s, sorted(few()))
		if l.Held() != 0 {
			t.Errorf("%d are held", l.Held())
		}
	}
}

// TestPagesComeFreeAsRunsEnd has runs that follow each other: those that were read out leave the disk ahead of the others.
func TestPagesComeFreeAsRunsEnd(t *testing.T) {
	all := alikeSized(12, 100)
	p, s := spilt(t, 64, 12*200, all)
	wantErr(t, "Sort", s.Sort(), api.OK)
	each := pagesOf(64, 1, 4+4+100-32)
	for i, x := range sorted(all) {
		if n := p.d.Live() - strange; n > (len(all)-i+1)*each {
			t.Errorf("ahead of %d: %d pages are left", i, n)
		}
		wantNext(t, "in order", s, x, true, api.OK)
	}
	wantRest(t, "in order", s, nil)
	p.wantClear(t, "in order")
}

// TestNoneIsMergedMuchMoreOften has runs of a page each, two merged at once: all of them are written anew as often as their number can be halved, but for one that stands alone at the end.
func TestNoneIsMergedMuchMoreOften(t *testing.T) {
	for _, runs := range []int{129, 256} {
		all := alikeSized(runs, 78) // a record of 54 bytes, as many as go onto a page
		p, s := spilt(t, 64, 0, all)
		writes := p.d.Writes()
		wantErr(t, "Sort", s.Sort(), api.OK)
		// Seven times down to two runs, and the last run's own page.
		if n := p.d.Writes() - writes; n != 7*(runs&^1)+1 {
			t.Errorf("%d runs: %d pages were written, want %d", runs, n, 7*(runs&^1)+1)
		}
		wantRest(t, "halved", s, sorted(all))
	}
}
