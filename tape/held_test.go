package tape_test

import (
	"testing"

	"aqueduct/api"
	"aqueduct/ledger"
	"aqueduct/seal"
)

func TestWriterHoldsAPage(t *testing.T) {
	for _, page := range sizes {
		for _, budget := range []int{0, 1, page - 1, page, 3 * page, api.MaxBudget} {
			d := newDisk(t, page, 1000)
			l := ledger.New(budget)
			l.Take(others)
			w := create(t, d, l)
			wantHeld(t, l, others+page)
			for _, b := range edges(seal.Room(page))["of all lengths"] {
				wantErr(t, "Add", w.Add(b), api.OK)
				wantHeld(t, l, others+page)
			}
			_, e := w.Close()
			wantErr(t, "Close", e, api.OK)
			wantHeld(t, l, others)
			if l.Most() != others+page {
				t.Errorf("Most %d, want %d", l.Most(), others+page)
			}
		}
	}
}

func TestWritersOfNothingHoldAPage(t *testing.T) {
	d, l := newDisk(t, 128, 0), ledger.New(0)
	v, w := create(t, d, l), create(t, d, l)
	wantHeld(t, l, 256)
	v.Abort()
	wantHeld(t, l, 128)
	w.Close()
	wantHeld(t, l, 0)
}

func TestReaderHoldsAPageToItsEnd(t *testing.T) {
	for _, page := range sizes {
		for what, recs := range edges(seal.Room(page)) {
			tp := write(t, newDisk(t, page, 1000), recs)
			l := ledger.New(3)
			l.Take(others)
			r := tp.Open(l)
			wantHeld(t, l, others+page)
			for _, b := range recs {
				wantNext(t, r, b, true, api.OK)
				wantHeld(t, l, others+page)
			}
			for range 3 {
				wantNext(t, r, nil, false, api.OK)
				wantHeld(t, l, others)
			}
			r.Close()
			wantHeld(t, l, others)
			if l.Most() != others+page {
				t.Errorf("%s: Most %d, want %d", what, l.Most(), others+page)
			}
		}
	}
}

func TestReaderThatIsClosedInTheMidst(t *testing.T) {
	recs := records(3, 100, 0, 54, 60)
	d := newDisk(t, 64, 100)
	tp := write(t, d, recs)
	for i := range len(recs) + 1 {
		l := ledger.New(0)
		l.Take(others)
		r := tp.Open(l)
		for _, b := range recs[:i] {
			wantNext(t, r, b, true, api.OK)
		}
		wantHeld(t, l, others+64)
		ops := d.Ops()
		for range 2 {
			r.Close()
			wantHeld(t, l, others)
			wantNext(t, r, nil, false, api.ErrState)
		}
		wantHeld(t, l, others)
		if d.Ops() != ops {
			t.Errorf("a closed Reader: %d operations", d.Ops()-ops)
		}
		wantAll(t, tp, recs)
	}
}

// TestHoldIsTheReadersOwn reads with a ledger other than the one that it was written with.
func TestHoldIsTheReadersOwn(t *testing.T) {
	d := newDisk(t, 64, 100)
	one, two := ledger.New(0), ledger.New(0)
	w := create(t, d, one)
	w.Add(noise(9, 1))
	tp, _ := w.Close()
	r := tp.Open(two)
	wantHeld(t, one, 0)
	wantHeld(t, two, 64)
	r.Close()
	wantHeld(t, one, 0)
	wantHeld(t, two, 0)
}

// TestLedgerThatTakesNoMore goes on without: what was not taken is not given back.
func TestLedgerThatTakesNoMore(t *testing.T) {
	const farthest = 1 << 40
	l := ledger.New(0)
	for range farthest / api.MaxBudget {
		l.Take(api.MaxBudget)
	}
	d := newDisk(t, 64, 100)
	w := create(t, d, l)
	wantErr(t, "Add", w.Add(noise(9, 1)), api.OK)
	tp, e := w.Close()
	wantErr(t, "Close", e, api.OK)
	wantHeld(t, l, farthest)
	r := tp.Open(l)
	wantNext(t, r, noise(9, 1), true, api.OK)
	wantNext(t, r, nil, false, api.OK)
	r.Close()
	create(t, d, l).Abort()
	wantHeld(t, l, farthest)
}
