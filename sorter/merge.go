package sorter

import (
	"bytes"
	"cmp"
	"container/heap"

	"aqueduct/api"
	"aqueduct/ledger"
	"aqueduct/tape"
)

// lane is a run that is read.
type lane struct {
	run  *tape.Tape
	r    *tape.Reader
	rank int // what is in a lane of lower rank came ahead
}

// head is what comes next in a lane.
type head struct {
	entry
	lane lane
}

// heads is a heap with the item on top that is ahead of the others.
type heads []head

func (h heads) Len() int      { return len(h) }
func (h heads) Swap(i, j int) { h[i], h[j] = h[j], h[i] }

func (h heads) Less(i, j int) bool {
	return cmp.Or(bytes.Compare(h[i].key(), h[j].key()), cmp.Compare(h[i].lane.rank, h[j].lane.rank)) < 0
}

func (h *heads) Push(x any) {
	if n, ok := x.(head); ok {
		*h = append(*h, n)
	}
}

func (h *heads) Pop() any {
	last := len(*h) - 1
	n := (*h)[last]
	(*h)[last] = head{} // so that its bytes are held no more
	*h = (*h)[:last]
	return n
}

// merge brings the items of runs as one row.
type merge struct {
	purse purse
	heads heads
	bare  *lane // the one whose next item was not read yet
}

// open begins to read the runs, those that came ahead first.
func (m *merge) open(runs []*tape.Tape, l *ledger.Ledger) api.Errno {
	for i, t := range runs {
		m.bare = &lane{run: t, r: t.Open(l), rank: i}
		if e := m.fill(); e != api.OK {
			return e
		}
	}
	return api.OK
}

// fill reads what comes next in the bare lane. A run that is read out is dropped at once: its pages may do for what is written meanwhile.
func (m *merge) fill() api.Errno {
	if m.bare == nil {
		return api.OK
	}
	b, ok, e := m.bare.r.Next()
	if e != api.OK {
		return e
	}
	if !ok {
		m.bare.run.Drop()
		m.bare = nil
		return api.OK
	}
	r := record(b)
	if !r.isWhole() {
		return api.ErrForm
	}
	heap.Push(&m.heads, head{m.purse.hold(r), *m.bare})
	m.bare = nil
	return api.OK
}

// next answers the item that is ahead of all others. What is behind it in its lane is read only when it is asked again, so that an error there takes no item away.
func (m *merge) next() (entry, bool, api.Errno) {
	if e := m.fill(); e != api.OK {
		return entry{}, false, e
	}
	if len(m.heads) == 0 {
		return entry{}, false, api.OK
	}
	n, ok := heap.Pop(&m.heads).(head)
	if !ok {
		return entry{}, false, api.OK
	}
	m.bare = &n.lane
	return n.entry, true, api.OK
}

// close reads no more, and gives back what is held for it.
func (m *merge) close() {
	if m == nil {
		return
	}
	for _, n := range m.heads {
		m.purse.drop(n.entry)
		n.lane.r.Close()
	}
	if m.bare != nil {
		m.bare.r.Close()
	}
}
