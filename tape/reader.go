package tape

import (
	"aqueduct/api"
	"aqueduct/disk"
	"aqueduct/seal"
)

// Reader goes through a Tape's records, with one page's data at hand.
type Reader struct {
	d     *disk.Disk
	held  hold
	pages []int  // those that were not read yet
	data  []byte // what is left of the page that was read last
	left  int    // records that were not brought yet
	over  bool   // closed or broken
}

// Next answers the next record; false where none is left.
func (r *Reader) Next() ([]byte, bool, api.Errno) {
	if r == nil {
		return nil, false, api.ErrArg
	}
	if r.over {
		return nil, false, api.ErrState
	}
	if r.left == 0 {
		r.held.end()
		return nil, false, api.OK
	}
	b, e := r.record()
	if e != api.OK {
		r.Close()
		return nil, false, e
	}
	r.left--
	return b, true, api.OK
}

// record reads a length and the bytes that it tells of.
func (r *Reader) record() ([]byte, api.Errno) {
	b, e := r.read(head)
	if e != api.OK {
		return nil, e
	}
	return r.read(lengthOf(b))
}

// read answers the next n bytes, from as many pages as they stand on.
func (r *Reader) read(n int) ([]byte, api.Errno) {
	// A length is believed only as far as there are pages for it.
	most := len(r.data) + len(r.pages)*seal.Room(r.d.Page())
	b := make([]byte, 0, min(n, most))
	for len(b) < n {
		if len(r.data) == 0 {
			if e := r.turn(); e != api.OK {
				return nil, e
			}
		}
		k := min(n-len(b), len(r.data))
		b = append(b, r.data[:k]...)
		r.data = r.data[k:]
	}
	return b, api.OK
}

// turn reads the next page, and holds what it names as its next against the tape's order.
func (r *Reader) turn() api.Errno {
	if len(r.pages) == 0 {
		return api.ErrForm // a record goes beyond the end
	}
	b, e := r.d.Read(r.pages[0])
	if e != api.OK {
		return e
	}
	next, data, e := seal.Open(b)
	if e != api.OK {
		return e
	}
	r.pages = r.pages[1:]
	behind := noPage
	if len(r.pages) > 0 {
		behind = r.pages[0]
	}
	if next != behind {
		return api.ErrForm
	}
	r.data = data
	return api.OK
}

// Close gives back what is held; nothing more is brought.
func (r *Reader) Close() {
	if r == nil {
		return
	}
	r.held.end()
	*r = Reader{over: true}
}

// lengthOf is the length that headOf told.
func lengthOf(b []byte) int {
	n := 0
	for i, c := range b {
		n |= int(c) << (8 * i)
	}
	return n
}
