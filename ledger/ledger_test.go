package ledger_test

import (
	"math"
	"testing"

	"aqueduct/api"
	"aqueduct/ledger"
)

// farthest is the most that may be held.
const farthest = 1 << 40

// holding makes a ledger that holds that much.
func holding(t *testing.T, budget, held int) *ledger.Ledger {
	t.Helper()
	l := ledger.New(budget)
	for left := held; left > 0; {
		n := min(left, api.MaxBudget)
		if !l.Take(n) {
			t.Fatalf("Take(%d) at %d: false", n, l.Held())
		}
		left -= n
	}
	wantLedger(t, l, held, held)
	return l
}

func wantLedger(t *testing.T, l *ledger.Ledger, held, most int) {
	t.Helper()
	if l.Held() != held || l.Most() != most {
		t.Errorf("Held %d, Most %d, want %d, %d", l.Held(), l.Most(), held, most)
	}
}

func wantBool(t *testing.T, what string, got, want bool) {
	t.Helper()
	if got != want {
		t.Errorf("%s: %v, want %v", what, got, want)
	}
}

func TestChaptersExample(t *testing.T) {
	l := ledger.New(10)
	wantBool(t, "Fits 10", l.Fits(10), true)
	wantBool(t, "Take 12", l.Take(12), true)
	wantBool(t, "Fits 0", l.Fits(0), false)
	wantBool(t, "Give 3", l.Give(3), true)
	wantLedger(t, l, 9, 12)
	wantBool(t, "Fits 1", l.Fits(1), true)
	wantBool(t, "Fits 2", l.Fits(2), false)
}

func TestBudgetIsTheNearestThatMayBe(t *testing.T) {
	rows := []struct{ budget, want int }{
		{math.MinInt, 0}, {-1 << 40, 0}, {-api.MaxBudget, 0}, {-1, 0}, {0, 0}, {1, 1}, {4096, 4096},
		{api.MaxBudget - 1, api.MaxBudget - 1}, {api.MaxBudget, api.MaxBudget}, {api.MaxBudget + 1, api.MaxBudget},
		{1 << 32, api.MaxBudget}, {1 << 40, api.MaxBudget}, {math.MaxInt, api.MaxBudget},
	}
	for _, r := range rows {
		l := ledger.New(r.budget)
		if l == nil || l.Budget() != r.want {
			t.Fatalf("New(%d): %v, want a budget of %d", r.budget, l, r.want)
		}
		wantLedger(t, l, 0, 0)
		wantBool(t, "Fits of the budget", l.Fits(r.want), true)
		wantBool(t, "Fits of one more", l.Fits(r.want+1), false)
		wantBool(t, "Take", l.Take(5), true)
		if l.Budget() != r.want {
			t.Errorf("New(%d): a Take makes a budget of %d", r.budget, l.Budget())
		}
	}
}

func TestFitsIsOfWhatIsHeldAndMore(t *testing.T) {
	rows := []struct {
		budget, held, n int
		want            bool
	}{
		{0, 0, 0, true}, {0, 0, 1, false}, {0, 1, 0, false},
		{100, 0, 100, true}, {100, 0, 101, false},
		{100, 60, 0, true}, {100, 60, 39, true}, {100, 60, 40, true}, {100, 60, 41, false}, {100, 60, 60, false}, {100, 60, 100, false},
		{100, 100, 0, true}, {100, 100, 1, false}, {100, 101, 0, false}, {100, 101, 1, false},
		{api.MaxBudget, 0, api.MaxBudget, true}, {api.MaxBudget, 0, api.MaxBudget + 1, false},
		{api.MaxBudget, 1, api.MaxBudget - 1, true}, {api.MaxBudget, 1, api.MaxBudget, false},
		{api.MaxBudget, api.MaxBudget, 0, true}, {api.MaxBudget, api.MaxBudget + 1, 0, false},
	}
	for _, r := range rows {
		l := holding(t, r.budget, r.held)
		if got := l.Fits(r.n); got != r.want {
			t.Errorf("budget %d, held %d: Fits(%d): %v", r.budget, r.held, r.n, got)
		}
		wantLedger(t, l, r.held, r.held)
	}
}

func TestFitsOfWhatNeverFits(t *testing.T) {
	for _, held := range []int{0, 1, 99, 100, 101, api.MaxBudget, farthest} {
		l := holding(t, 100, held)
		for _, n := range []int{math.MinInt, math.MinInt + 1, -farthest, -api.MaxBudget, -held - 1, -1, 101, api.MaxBudget + 1, farthest, math.MaxInt - 1, math.MaxInt} {
			if l.Fits(n) {
				t.Errorf("held %d: Fits(%d): true", held, n)
			}
		}
		wantLedger(t, l, held, held)
	}
}

func TestTakeHoldsBeyondTheBudget(t *testing.T) {
	for _, budget := range []int{-7, 0, 1, 10, api.MaxBudget} {
		l := ledger.New(budget)
		sum := 0
		for _, n := range []int{0, 1, 10, 11, api.MaxBudget - 1, api.MaxBudget, api.MaxBudget, 0, 3} {
			if !l.Take(n) {
				t.Errorf("budget %d: Take(%d): false", budget, n)
			}
			sum += n
			wantLedger(t, l, sum, sum)
		}
	}
}

func TestTakeRefuses(t *testing.T) {
	for _, held := range []int{0, 1, api.MaxBudget, farthest - 1, farthest} {
		l := holding(t, api.MaxBudget, held)
		for _, n := range []int{math.MinInt, math.MinInt + 1, -farthest, -held - 1, -api.MaxBudget, -1, api.MaxBudget + 1, 1 << 32, farthest, math.MaxInt - held, math.MaxInt} {
			if l.Take(n) {
				t.Errorf("held %d: Take(%d): true", held, n)
			}
			wantLedger(t, l, held, held)
		}
	}
}

func TestTakeToTheFarthestAndOneBeyond(t *testing.T) {
	l := holding(t, 0, farthest-5)
	for _, n := range []int{6, 7, 100, api.MaxBudget} {
		wantBool(t, "Take beyond", l.Take(n), false)
		wantLedger(t, l, farthest-5, farthest-5)
	}
	wantBool(t, "Take 5", l.Take(5), true)
	wantLedger(t, l, farthest, farthest)
	wantBool(t, "Take 0", l.Take(0), true)
	wantBool(t, "Take 1", l.Take(1), false)
	wantBool(t, "Take MaxBudget", l.Take(api.MaxBudget), false)
	wantLedger(t, l, farthest, farthest)
	wantBool(t, "Give 1", l.Give(1), true)
	wantBool(t, "Take 2", l.Take(2), false)
	wantBool(t, "Take 1", l.Take(1), true)
	wantLedger(t, l, farthest, farthest)
}

func TestTakeOfAWholeBudgetToTheFarthest(t *testing.T) {
	l := holding(t, 0, farthest-api.MaxBudget+1)
	wantBool(t, "Take one beyond", l.Take(api.MaxBudget), false)
	wantBool(t, "Give 1", l.Give(1), true)
	wantBool(t, "Take to the farthest", l.Take(api.MaxBudget), true)
	wantLedger(t, l, farthest, farthest)
}

func TestGiveOfJustWhatIsHeldAndOneMore(t *testing.T) {
	for _, held := range []int{0, 1, 9, 10, 11, api.MaxBudget, api.MaxBudget + 1, farthest} {
		l := holding(t, 10, held)
		for _, n := range []int{held + 1, held + 2, farthest + 1, math.MaxInt - held, math.MaxInt, -1, -held - 1, -api.MaxBudget, -farthest, math.MinInt + 1, math.MinInt} {
			if l.Give(n) {
				t.Errorf("held %d: Give(%d): true", held, n)
			}
			wantLedger(t, l, held, held)
		}
		wantBool(t, "Give 0", l.Give(0), true)
		wantLedger(t, l, held, held)
		wantBool(t, "Give of all", l.Give(held), true)
		wantLedger(t, l, 0, held)
		wantBool(t, "Give 1 of nothing", l.Give(1), false)
		wantBool(t, "Give 0 of nothing", l.Give(0), true)
		wantLedger(t, l, 0, held)
	}
}

// Take alone has MaxBudget for a bound.
func TestGiveOfMaxBudgetAndOneBeyond(t *testing.T) {
	l := holding(t, 0, 3*api.MaxBudget)
	wantBool(t, "Give MaxBudget", l.Give(api.MaxBudget), true)
	wantLedger(t, l, 2*api.MaxBudget, 3*api.MaxBudget)
	wantBool(t, "Give one more", l.Give(api.MaxBudget+1), true)
	wantLedger(t, l, api.MaxBudget-1, 3*api.MaxBudget)
	wantBool(t, "Give MaxBudget", l.Give(api.MaxBudget), false)
	wantLedger(t, l, api.MaxBudget-1, 3*api.MaxBudget)
}

func TestMostStaysBehindAGive(t *testing.T) {
	l := ledger.New(10)
	steps := []struct {
		take, give, held, most int
	}{
		{7, 0, 7, 7}, {0, 3, 4, 7}, {3, 0, 7, 7}, {1, 0, 8, 8}, {0, 8, 0, 8}, {8, 0, 8, 8},
		{12, 0, 20, 20}, {0, 19, 1, 20}, {19, 1, 19, 20}, {2, 21, 0, 21},
	}
	for _, s := range steps {
		wantBool(t, "Take", l.Take(s.take), true)
		wantBool(t, "Give", l.Give(s.give), true)
		wantLedger(t, l, s.held, s.most)
	}
	wantBool(t, "Take of too many", l.Take(api.MaxBudget+1), false)
	wantBool(t, "Give of too many", l.Give(1), false)
	wantBool(t, "Fits", l.Fits(10), true)
	wantLedger(t, l, 0, 21)
}

func TestGivenBackFitsAgain(t *testing.T) {
	l := holding(t, 10, 10)
	wantBool(t, "Fits 1", l.Fits(1), false)
	wantBool(t, "Give 4", l.Give(4), true)
	wantBool(t, "Fits 4", l.Fits(4), true)
	wantBool(t, "Fits 5", l.Fits(5), false)
}

func TestLedgersAreApart(t *testing.T) {
	a, b := ledger.New(10), ledger.New(10)
	wantBool(t, "Take", a.Take(10), true)
	wantLedger(t, b, 0, 0)
	wantBool(t, "Fits", b.Fits(10), true)
	wantBool(t, "Give", b.Give(1), false)
	wantLedger(t, a, 10, 10)
}

func TestNilLedger(t *testing.T) {
	var l *ledger.Ledger
	for _, n := range []int{math.MinInt, -1, 0, 1, api.MaxBudget, api.MaxBudget + 1, math.MaxInt} {
		wantBool(t, "Fits", l.Fits(n), false)
		wantBool(t, "Take", l.Take(n), false)
		wantBool(t, "Give", l.Give(n), false)
	}
	wantLedger(t, l, 0, 0)
	if l.Budget() != 0 {
		t.Errorf("Budget: %d", l.Budget())
	}
}

func TestLedgerThatNewDidNotMake(t *testing.T) {
	var l ledger.Ledger
	wantBool(t, "Fits 0", l.Fits(0), true)
	wantBool(t, "Fits 1", l.Fits(1), false)
	wantBool(t, "Take 3", l.Take(3), true)
	wantBool(t, "Give 2", l.Give(2), true)
	wantLedger(t, &l, 1, 3)
	if l.Budget() != 0 {
		t.Errorf("Budget: %d", l.Budget())
	}
}
