package ledger_test

import (
	"math"
	"math/big"
	"testing"

	"aqueduct/api"
	"aqueduct/ledger"
)

// model is the chapter's ledger in numbers that have no ends.
type model struct {
	budget, held, most *big.Int
}

func num(n int) *big.Int { return big.NewInt(int64(n)) }

func modelOf(budget int) *model {
	b := num(budget)
	if b.Sign() < 0 {
		b = num(0)
	}
	if b.Cmp(num(api.MaxBudget)) > 0 {
		b = num(api.MaxBudget)
	}
	return &model{b, num(0), num(0)}
}

func (m *model) fits(n int) bool {
	return n >= 0 && new(big.Int).Add(m.held, num(n)).Cmp(m.budget) <= 0
}

func (m *model) take(n int) bool {
	sum := new(big.Int).Add(m.held, num(n))
	if n < 0 || n > api.MaxBudget || sum.Cmp(num(farthest)) > 0 {
		return false
	}
	m.held = sum
	if m.most.Cmp(sum) < 0 {
		m.most = sum
	}
	return true
}

func (m *model) give(n int) bool {
	if n < 0 || m.held.Cmp(num(n)) < 0 {
		return false
	}
	m.held = new(big.Int).Sub(m.held, num(n))
	return true
}

// source brings numbers, the same ones for the same seed.
type source uint64

func (s *source) below(n int) int {
	*s = *s*6364136223846793005 + 1442695040888963407
	return int(uint64(*s)>>33) % n
}

// number is one to ask with: about the edges more often than not.
func (s *source) number(l *ledger.Ledger) int {
	edges := []int{
		0, l.Held(), l.Budget(), l.Budget() - l.Held(), l.Held() - l.Budget(), api.MaxBudget,
		farthest, farthest - l.Held(), math.MaxInt - l.Held(), math.MaxInt - 1, math.MinInt + 1, -l.Held(),
	}
	if s.below(3) == 0 {
		return s.below(1 + api.MaxBudget)
	}
	return edges[s.below(len(edges))] + s.below(3) - 1
}

// run asks the ledger and the model the same, many times.
func run(t *testing.T, s *source, l *ledger.Ledger, m *model) {
	t.Helper()
	for range 2000 {
		n := s.number(l)
		held := l.Held()
		var got, want bool
		what := s.below(5)
		switch what {
		case 0:
			got, want = l.Fits(n), m.fits(n)
		case 1:
			got, want = l.Give(n), m.give(n)
		default:
			got, want = l.Take(n), m.take(n)
		}
		same := num(l.Held()).Cmp(m.held) == 0 && num(l.Most()).Cmp(m.most) == 0 && num(l.Budget()).Cmp(m.budget) == 0
		if got != want || !same {
			t.Fatalf("held %d, request %d of %d: %v, want %v; Held %d, Most %d, want %v, %v", held, what, n, got, want, l.Held(), l.Most(), m.held, m.most)
		}
	}
}

func TestAsTheModel(t *testing.T) {
	s := source(1)
	for _, budget := range []int{math.MinInt, -1, 0, 1, 10, 4096, 1 << 20, api.MaxBudget - 1, api.MaxBudget, api.MaxBudget + 1, math.MaxInt} {
		run(t, &s, ledger.New(budget), modelOf(budget))
		l, m := holding(t, budget, farthest-100), modelOf(budget)
		m.held, m.most = num(farthest-100), num(farthest-100)
		run(t, &s, l, m)
	}
}
