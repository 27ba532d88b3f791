package grouper_test

import (
	"strconv"
	"testing"

	"aqueduct/api"
	"aqueduct/grouper"
	"aqueduct/ledger"
	"aqueduct/top"
)

// TestAllThatFitsIsNotSpilled has room for just what all items with 64 bytes each are: no operation is asked for, and what was brought is held no more.
func TestAllThatFitsIsNotSpilled(t *testing.T) {
	for _, all := range [][]top.Item{few(), some(1, 1, 500, 1), some(2, 1, 0, 2), some(100, 10, 0, 3), some(100, 100, 50, 4), some(300, 1, 5, 5), {{}, {}, {}}} {
		p := made(t, 64, total(all), 0)
		ops := p.d.Ops()
		g := grouper.New(p.d, p.l)
		wantAdds(t, "all", g, all)
		wantErr(t, "End", g.End(), api.OK)
		rest := grouped(all)
		for i, x := range rest {
			wantNext(t, "all", g, x)
			if n, most := p.l.Held()-others, total(all)-total(itemsOf(rest[:i+1])); n > most {
				t.Errorf("behind %d: %d are held, want %d at most", i, n, most)
			}
		}
		p.wantClear(t, "all")
		wantSpilled(t, "all", g, false)
		if p.d.Ops() != ops || p.l.Most() > p.l.Budget() {
			t.Errorf("%d operations, %d were held of %d", p.d.Ops()-ops, p.l.Most(), p.l.Budget())
		}
	}
}

func itemsOf(l []member) []top.Item {
	var out []top.Item
	for _, x := range l {
		out = append(out, x.item)
	}
	return out
}

// TestWhatDoesNotFitIsSpilled has far less room than the items need, so that pages are written, and some a byte less than all items with 64 bytes each are.
func TestWhatDoesNotFitIsSpilled(t *testing.T) {
	for _, all := range [][]top.Item{some(30, 4, 50, 1), some(200, 200, 10, 2), some(100, 1, 100, 3)} {
		for _, room := range []int{0, 64, 500, total(all) / 3} {
			if !wantAll(t, 64, room, all) {
				t.Errorf("%d of %d: nothing was spilled", room, total(all))
			}
		}
		wantAll(t, 64, total(all)-1, all)
	}
}

// TestSpilledOfItsOwn is what pages it wrote itself, and not what others did ahead of it, between its calls and behind it.
func TestSpilledOfItsOwn(t *testing.T) {
	p := made(t, 64, 10000, 200)
	g := grouper.New(p.d, p.l)
	write := func() {
		t.Helper()
		wantErr(t, "Write", p.d.Write(0, make([]byte, 64)), api.OK)
		wantSpilled(t, "others write", g, false)
	}
	write()
	for _, x := range few() {
		wantAdd(t, "own", g, x, api.OK)
		write()
	}
	wantErr(t, "End", g.End(), api.OK)
	write()
	for _, x := range grouped(few()) {
		wantNext(t, "own", g, x)
		write()
	}
	wantNone(t, "own", g, api.OK)
	write()
	g.Close()
	write()
}

// TestOneItemGreaterThanTheBudget is alone, or stands anywhere among others.
func TestOneItemGreaterThanTheBudget(t *testing.T) {
	for _, page := range []int{64, 1024} {
		for _, room := range []int{0, 50, 200, 600, 1300, 2500} {
			big := top.Item{Key: []byte("k1"), Data: noise(3000, room)}
			wantAll(t, page, room, []top.Item{big})
			wantAll(t, page, room, []top.Item{{Key: noise(3000, 1)}})
			wantAll(t, page, room, []top.Item{big, big, big})
			for _, at := range []int{0, 20, 39} {
				all := some(40, 15, 30, room)
				all[at] = big
				wantAll(t, page, room, all)
				all[at] = top.Item{Key: noise(3000, at), Data: []byte("big")}
				wantAll(t, page, room, all)
			}
		}
	}
}

// TestSmallOnesAheadOfGreatOnes has keys by which the great items come last in each run, so that what the small ones left of the budget is all taken when those come.
func TestSmallOnesAheadOfGreatOnes(t *testing.T) {
	var all []top.Item
	for i := range 400 {
		if i%4 == 3 {
			all = append(all, top.Item{Key: []byte("z" + strconv.Itoa(i)), Data: noise(700, i)})
		} else {
			all = append(all, it("a"+strconv.Itoa(i), ""))
		}
	}
	for _, page := range []int{64, 512} {
		for _, room := range []int{0, 1000, 4000, 8000, 20000, 50000} {
			wantAll(t, page, room, all)
		}
	}
}

// TestHeldByOthersCounts has the ledger's room taken and given by others on the way.
func TestHeldByOthersCounts(t *testing.T) {
	all := some(60, 9, 40, 1)
	for _, room := range []int{0, 300, 2000, 20000} {
		p := made(t, 64, room, 1000)
		g := grouper.New(p.d, p.l)
		for i, x := range all {
			taken := i * 397 % 5000
			p.l.Take(taken)
			wantAdd(t, "others", g, x, api.OK)
			p.l.Give(taken)
		}
		p.l.Take(1000)
		wantErr(t, "End", g.End(), api.OK)
		wantSpilled(t, "others", g, room <= 2000)
		p.l.Give(1000)
		for i, x := range grouped(all) {
			taken := i * 397 % 5000
			p.l.Take(taken)
			wantNext(t, "others", g, x)
			p.l.Give(taken)
		}
		wantRest(t, "others", g, nil)
		p.wantClear(t, "others")
	}
}

// TestLedgerThatHoldsAllItCan takes nothing more, so that nothing is given back that was not taken.
func TestLedgerThatHoldsAllItCan(t *testing.T) {
	for _, room := range []int{0, 20, 63, 64, 70, 101, 140, 300, 1000} {
		p := made(t, 64, 0, 100)
		l := ledger.New(0)
		for l.Take(api.MaxBudget) {
		}
		l.Give(room)
		held := l.Held()
		for nexts := range len(few()) + 2 {
			g := grouper.New(p.d, l)
			wantAdds(t, "full", g, few())
			wantErr(t, "End", g.End(), api.OK)
			for _, x := range grouped(few())[:min(nexts, len(few()))] {
				wantNext(t, "full", g, x)
			}
			if nexts > len(few()) {
				wantNone(t, "full", g, api.OK)
			} else {
				g.Close()
			}
			if n := l.Held(); n != held {
				t.Errorf("room %d, %d asked for: %d are held more than ahead", room, nexts, n-held)
			}
		}
		p.wantClear(t, "full")
	}
}

// TestAnyBudget has ledgers of budgets that are none.
func TestAnyBudget(t *testing.T) {
	for _, budget := range []int{-1 << 62, -1, 0, 1, api.MaxBudget, api.MaxBudget + 1, 1 << 62} {
		p := made(t, 64, 0, 100)
		l := ledger.New(budget)
		g := grouper.New(p.d, l)
		wantAdds(t, "any", g, few())
		wantErr(t, "End", g.End(), api.OK)
		wantSpilled(t, "budget "+strconv.Itoa(budget), g, l.Budget() < 2)
		wantRest(t, "any", g, grouped(few()))
		if l.Held() != 0 {
			t.Errorf("%d are held", l.Held())
		}
	}
}
