package ledger_test

import (
	"testing"

	"aqueduct/api"
	"aqueduct/ledger"
)

// holder asks a ledger by method values alone, as those do who hold bytes.
type holder struct {
	take, fits, give   func(int) bool
	held, most, budget func() int
}

func holderOf(l *ledger.Ledger) holder {
	return holder{l.Take, l.Fits, l.Give, l.Held, l.Most, l.Budget}
}

func (h holder) want(t *testing.T, held, most, budget int) {
	t.Helper()
	if h.held() != held || h.most() != most || h.budget() != budget {
		t.Errorf("Held %d, Most %d, Budget %d, want %d, %d, %d", h.held(), h.most(), h.budget(), held, most, budget)
	}
}

func TestMethodValuesAskTheirLedger(t *testing.T) {
	l := ledger.New(10)
	one, two := holderOf(l), holderOf(l)
	other := holderOf(ledger.New(3))
	l = ledger.New(99) // those made ahead go on with theirs
	wantBool(t, "fits", one.fits(10), true)
	wantBool(t, "take", one.take(12), true)
	wantBool(t, "fits", two.fits(0), false)
	wantBool(t, "give", two.give(3), true)
	one.want(t, 9, 12, 10)
	two.want(t, 9, 12, 10)
	other.want(t, 0, 0, 3)
	wantBool(t, "give", other.give(1), false)
	wantBool(t, "take", other.take(-1), false)
	wantBool(t, "take", other.take(api.MaxBudget+1), false)
	wantLedger(t, l, 0, 0)
}

func TestMethodValuesOfANilLedger(t *testing.T) {
	var l *ledger.Ledger
	h := holderOf(l)
	wantBool(t, "fits", h.fits(0), false)
	wantBool(t, "take", h.take(0), false)
	wantBool(t, "give", h.give(0), false)
	h.want(t, 0, 0, 0)
}

func TestMethodExpressions(t *testing.T) {
	l := ledger.New(5)
	wantBool(t, "Take", (*ledger.Ledger).Take(l, 6), true)
	wantBool(t, "Fits", (*ledger.Ledger).Fits(l, 0), false)
	wantBool(t, "Give", (*ledger.Ledger).Give(l, 2), true)
	wantLedger(t, l, 4, 6)
	wantBool(t, "Take of nil", (*ledger.Ledger).Take(nil, 0), false)
}
