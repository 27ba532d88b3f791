package tape

import (
	"aqueduct/api"
	"aqueduct/disk"
	"aqueduct/ledger"
	"aqueduct/seal"
)

// Writer lays records on pages that it Allocs as it goes.
type Writer struct {
	d     *disk.Disk
	held  hold
	pages []int  // in order; the last one is not written yet
	data  []byte // those of the last page
	count int
	over  bool // closed, aborted or broken
}

// Create begins a tape on d, for which a page's bytes of l are held.
func Create(d *disk.Disk, l *ledger.Ledger) *Writer {
	if d == nil || l == nil {
		return nil
	}
	return &Writer{d: d, held: holdOf(d.Page(), l.Take, l.Give)}
}

// Add lays the record b behind those that are there. With an error of the disk the Writer is aborted.
func (w *Writer) Add(b []byte) api.Errno {
	if w == nil {
		return api.ErrArg
	}
	if w.over {
		return api.ErrState
	}
	if len(b) > longest {
		return api.ErrLong
	}
	e := w.lay(headOf(len(b)))
	if e == api.OK {
		e = w.lay(b)
	}
	if e != api.OK {
		w.Abort()
		return e
	}
	w.count++
	return api.OK
}

// lay puts b behind what is there, on as many pages as it needs.
func (w *Writer) lay(b []byte) api.Errno {
	room := seal.Room(w.d.Page())
	for len(b) > 0 {
		if len(w.pages) == 0 || len(w.data) == room {
			if e := w.turn(); e != api.OK {
				return e
			}
		}
		n := min(len(b), room-len(w.data))
		w.data = append(w.data, b[:n]...)
		b = b[n:]
	}
	return api.OK
}

// turn begins a page. The one ahead of it is written only now, as it names the new one.
func (w *Writer) turn() api.Errno {
	n, e := w.d.Alloc()
	if e != api.OK {
		return e
	}
	if len(w.pages) > 0 {
		e = w.write(n)
	}
	w.pages = append(w.pages, n) // after an error too: an Abort frees it with the others
	w.data = w.data[:0]
	return e
}

// write writes the last page, which names next as the one behind it.
func (w *Writer) write(next int) api.Errno {
	b, e := seal.Close(w.d.Page(), next, w.data)
	if e != api.OK {
		return e
	}
	return w.d.Write(w.pages[len(w.pages)-1], b)
}

// Close writes what is left and answers the Tape. With an error of the disk the Writer is aborted.
func (w *Writer) Close() (*Tape, api.Errno) {
	if w == nil {
		return nil, api.ErrArg
	}
	if w.over {
		return nil, api.ErrState
	}
	if len(w.pages) > 0 {
		if e := w.write(noPage); e != api.OK {
			w.Abort()
			return nil, e
		}
	}
	t := &Tape{d: w.d, pages: w.pages, count: w.count}
	w.end()
	return t, api.OK
}

// Abort frees all the Writer's pages; those of a Tape that was closed are the Writer's no more.
func (w *Writer) Abort() {
	if w == nil || w.over {
		return
	}
	freeAll(w.d, w.pages)
	w.end()
}

// end lets go of all that the Writer has.
func (w *Writer) end() {
	w.held.end()
	*w = Writer{over: true}
}

// headOf is a record's length as it stands on a tape, its lowest byte first.
func headOf(n int) []byte {
	b := make([]byte, head)
	for i := range b {
		b[i] = byte(n >> (8 * i))
	}
	return b
}
