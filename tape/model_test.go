package tape_test

import (
	"testing"

	"aqueduct/api"
	"aqueduct/disk"
	"aqueduct/ledger"
	"aqueduct/seal"
	"aqueduct/tape"
)

// draw brings numbers, the same ones for the same seed.
type draw uint64

func (s *draw) below(n int) int {
	*s = *s*6364136223846793005 + 1442695040888963407
	return int(uint64(*s)>>33) % n
}

// writing, kept and reading are a Writer, a Tape, a Reader with what they are to bring.
type writing struct {
	w    *tape.Writer
	recs [][]byte
}

type kept struct {
	tp   *tape.Tape
	recs [][]byte
}

type reading struct {
	r    *tape.Reader
	recs [][]byte
}

// world is a disk and a ledger with many of them by turns.
type world struct {
	draw
	d        *disk.Disk
	l        *ledger.Ledger
	writings []writing
	tapes    []kept
	readings []reading
}

// remove takes the item i out of the list.
func remove[T any](l *[]T, i int) {
	(*l)[i] = (*l)[len(*l)-1]
	*l = (*l)[:len(*l)-1]
}

func (w *world) length() int {
	room := seal.Room(w.d.Page())
	edges := []int{0, 1, room - 9, room - 8, room - 5, room - 4, room - 3, room, 2*room - 4, 3*room + 1}
	if w.below(2) == 0 {
		return edges[w.below(len(edges))]
	}
	return w.below(3 * room)
}

func (w *world) write(t *testing.T) {
	if len(w.writings) < 3 {
		w.writings = append(w.writings, writing{w: create(t, w.d, w.l)})
	}
	i := w.below(len(w.writings))
	g := &w.writings[i]
	switch w.below(12) {
	case 0:
		g.w.Abort()
		remove(&w.writings, i)
	case 1:
		tp, e := g.w.Close()
		wantErr(t, "Close", e, api.OK)
		w.tapes = append(w.tapes, kept{tp, g.recs})
		remove(&w.writings, i)
	default:
		b := noise(w.length(), w.below(1000))
		if e := g.w.Add(b); e == api.ErrFull {
			remove(&w.writings, i) // it is broken: its pages are free
		} else {
			wantErr(t, "Add", e, api.OK)
			g.recs = append(g.recs, b)
		}
	}
}

func (w *world) read(t *testing.T) {
	if len(w.readings) < 4 && len(w.tapes) > 0 {
		k := w.tapes[w.below(len(w.tapes))]
		w.readings = append(w.readings, reading{k.tp.Open(w.l), k.recs})
	}
	if len(w.readings) == 0 {
		return
	}
	i := w.below(len(w.readings))
	g := &w.readings[i]
	switch {
	case w.below(20) == 0:
		g.r.Close()
		remove(&w.readings, i)
	case len(g.recs) == 0:
		wantNext(t, g.r, nil, false, api.OK)
		remove(&w.readings, i)
	default:
		wantNext(t, g.r, g.recs[0], true, api.OK)
		g.recs = g.recs[1:]
	}
}

// drop drops a tape that nobody reads just then.
func (w *world) drop(t *testing.T) {
	for len(w.readings) > 0 {
		w.readings[0].r.Close()
		remove(&w.readings, 0)
	}
	for len(w.tapes) > 4 {
		i := w.below(len(w.tapes))
		wantErr(t, "Drop", w.tapes[i].tp.Drop(), api.OK)
		remove(&w.tapes, i)
	}
}

// pages is how many the records stand on.
func (w *world) pages(recs [][]byte) int {
	if len(recs) == 0 {
		return 0
	}
	return ends(recs, seal.Room(w.d.Page()))[len(recs)-1]
}

// check holds what the disk and the ledger tell against what there is.
func (w *world) check(t *testing.T) {
	live := 0
	for _, k := range w.tapes {
		pages := w.pages(k.recs)
		if live += pages; k.tp.Count() != len(k.recs) || len(k.tp.Pages()) != pages {
			t.Errorf("Count %d, Pages %v, want %d, %d of them", k.tp.Count(), k.tp.Pages(), len(k.recs), pages)
		}
	}
	for _, g := range w.writings {
		live += w.pages(g.recs)
	}
	wantLive(t, w.d, live)
	wantHeld(t, w.l, w.d.Page()*(len(w.writings)+len(w.readings)))
}

func TestManyByTurns(t *testing.T) {
	for _, page := range sizes {
		w := &world{draw: draw(page), d: newDisk(t, page, 150), l: ledger.New(page)}
		for i := range 3000 {
			switch {
			case i%200 == 199:
				w.drop(t)
			case w.below(2) == 0:
				w.write(t)
			default:
				w.read(t)
			}
			w.check(t)
			if t.Failed() {
				t.Fatalf("pages of %d: turn %d", page, i)
			}
		}
		for _, k := range w.tapes {
			wantAll(t, k.tp, k.recs)
		}
	}
}
