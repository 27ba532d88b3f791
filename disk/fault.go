package disk

import "aqueduct/api"

// Fault is one that is planned for the operation of number At.
type Fault struct {
	At, Kind int
}

// Kinds of faults.
const (
	Read  = iota + 1 // a Read is ErrIO
	Write            // a Write is ErrIO
	Full             // an Alloc is ErrFull
	Turn             // a Read brings a bit turned
)

// Sorts of operations.
const (
	alloc = iota + 1
	free
	read
	write
)

// operation is one that was asked for, as the planned faults leave it.
type operation struct {
	sort int
	err  api.Errno
	mask byte // the first byte that a Read brings is exclusive-ored with it
}

// mishap is what a fault may do to an operation of its sort; its methods leave those of another sort alone.
type mishap struct {
	sort int
	err  api.Errno
}

// fail lets the operation end with the error.
func (m mishap) fail(o *operation) {
	if o.sort == m.sort {
		o.err = m.err
	}
}

// turn turns the lowest bit of what is brought.
func (m mishap) turn(o *operation) {
	if o.sort == m.sort {
		o.mask ^= 1
	}
}

// happening answers what a fault of that kind does to an operation, nil where it is no kind.
func happening(kind int) func(*operation) {
	switch kind {
	case Read:
		return mishap{read, api.ErrIO}.fail
	case Write:
		return mishap{write, api.ErrIO}.fail
	case Full:
		return mishap{alloc, api.ErrFull}.fail
	case Turn:
		return mishap{read, api.OK}.turn
	}
	return nil
}

// Plan puts the faults of l in place of those that were planned, and counts operations anew for them.
func (d *Disk) Plan(l []Fault) {
	if d == nil {
		return
	}
	d.begun = d.ops
	d.plan = map[int][]func(*operation){}
	for _, f := range l {
		if h := happening(f.Kind); h != nil && f.At > 0 {
			d.plan[f.At] = append(d.plan[f.At], h)
		}
	}
}

// begin counts an operation and answers it with what is planned for it done to it.
func (d *Disk) begin(sort int) operation {
	d.ops++
	at := d.ops - d.begun
	o := operation{sort: sort}
	for _, happen := range d.plan[at] {
		happen(&o)
	}
	delete(d.plan, at) // its number does not come again
	return o
}

// Turn exclusive-ors the page n from that bit on with the mask; what is beyond the page is left out.
func (d *Disk) Turn(n, bit int, mask uint32) bool {
	if d == nil || !d.has(n) || bit < 0 || bit >= 8*d.page {
		return false
	}
	p := d.pages[n]
	for i := 0; i < 32 && bit+i < 8*d.page; i++ {
		p[(bit+i)/8] ^= byte(mask>>i&1) << ((bit + i) % 8)
	}
	return true
}
