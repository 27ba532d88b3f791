package sorter

import (
	"slices"

	"aqueduct/api"
	"aqueduct/tape"
)

// fewest is how many runs are merged at once, whatever the budget.
const fewest = 2

// feed brings items one behind another, each held and charged; false behind the last one.
type feed func() (entry, bool, api.Errno)

// spill writes the items that are held to a run of their own.
func (s *Sorter) spill() api.Errno {
	s.held.sort()
	t, e := s.write(s.held.next)
	if e != api.OK {
		return e
	}
	s.runs = append(s.runs, t)
	s.made++
	return api.OK
}

// write lays all that a feed brings on a tape.
func (s *Sorter) write(next feed) (*tape.Tape, api.Errno) {
	w := tape.Create(s.d, s.l)
	defer w.Abort() // of one that was closed it is nothing
	for {
		x, ok, e := next()
		if e != api.OK {
			return nil, e
		}
		if !ok {
			return w.Close()
		}
		e = w.Add(x.record)
		s.purse.drop(x)
		if e != api.OK {
			return nil, e
		}
	}
}

// atOnce answers how many runs are merged at once: as many as the ledger has room for.
func (s *Sorter) atOnce() int {
	each := s.d.Page() + s.greatest
	n := fewest
	for n < len(s.runs) && s.purse.fits((n+1)*each) {
		n++
	}
	return n
}

// gather merges runs, so many at once, till no more than most are left. It goes through all of them again and again, so that none is copied much more often than another.
func (s *Sorter) gather(once, most int) api.Errno {
	for i := 0; len(s.runs) > most; i++ {
		if i >= len(s.runs)-1 {
			i = 0
		}
		if e := s.join(i, min(i+once, len(s.runs))); e != api.OK {
			return e
		}
	}
	return api.OK
}

// join puts one run in the place of those from i to j: they stand side by side, so that what came ahead stays ahead.
func (s *Sorter) join(i, j int) api.Errno {
	m := &merge{purse: s.purse}
	defer m.close()
	if e := m.open(s.runs[i:j], s.l); e != api.OK {
		return e
	}
	t, e := s.write(m.next)
	if e != api.OK {
		return e
	}
	s.runs = slices.Replace(s.runs, i, j, t)
	return api.OK
}
