// Package disk is a stand-in for a disk of pages that may fail: see DOC.md, chapter 1.
package disk

import (
	"math/bits"
	"slices"

	"aqueduct/api"
)

// Disk holds pages of one size, each under a number of its own.
type Disk struct {
	page, most  int
	pages       [][]byte // by number; nil where the number is not in use
	used        []uint64 // a bit for each number, so that the least free one is found without a walk over all pages
	live        int
	ops, writes int
	begun       int // ops when the plan was made: the plan counts from there
	plan        map[int][]func(*operation)
}

// New makes a disk that has room for most pages of that size, with none there yet.
func New(page, most int) (*Disk, api.Errno) {
	if page < api.MinPage || page > api.MaxPage || page&(page-1) != 0 {
		return nil, api.ErrArg
	}
	if most < 0 || most > api.MaxPages {
		return nil, api.ErrArg
	}
	return &Disk{page: page, most: most, used: make([]uint64, (most+63)/64)}, api.OK
}

// Page answers the size of a page.
func (d *Disk) Page() int {
	if d == nil {
		return 0
	}
	return d.page
}

// Alloc takes a page of noughts into use and answers its number, the least that is free.
func (d *Disk) Alloc() (int, api.Errno) {
	if d == nil {
		return 0, api.ErrArg
	}
	if o := d.begin(alloc); o.err != api.OK {
		return 0, o.err
	}
	if d.live == d.most {
		return 0, api.ErrFull
	}
	n := d.least()
	if n == len(d.pages) {
		d.pages = append(d.pages, nil)
	}
	d.pages[n] = make([]byte, d.page)
	d.used[n/64] |= 1 << (n % 64)
	d.live++
	return n, api.OK
}

// least answers the least number that is not in use. The caller knows that there is one below most.
func (d *Disk) least() int {
	for i, w := range d.used {
		if w != ^uint64(0) {
			return i*64 + bits.TrailingZeros64(^w)
		}
	}
	return d.most
}

// Free gives the page n back.
func (d *Disk) Free(n int) api.Errno {
	if d == nil {
		return api.ErrArg
	}
	d.begin(free) // no fault keeps a page from being freed
	if !d.has(n) {
		return api.ErrNone
	}
	d.pages[n] = nil
	d.used[n/64] &^= 1 << (n % 64)
	d.live--
	return api.OK
}

// Read answers the bytes of the page n.
func (d *Disk) Read(n int) ([]byte, api.Errno) {
	if d == nil {
		return nil, api.ErrArg
	}
	o := d.begin(read)
	if o.err != api.OK {
		return nil, o.err
	}
	if !d.has(n) {
		return nil, api.ErrNone
	}
	b := slices.Clone(d.pages[n])
	b[0] ^= o.mask
	return b, api.OK
}

// Write puts b in place of what the page n held.
func (d *Disk) Write(n int, b []byte) api.Errno {
	if d == nil {
		return api.ErrArg
	}
	if o := d.begin(write); o.err != api.OK {
		return o.err
	}
	if !d.has(n) {
		return api.ErrNone
	}
	if len(b) != d.page {
		return api.ErrArg
	}
	copy(d.pages[n], b)
	d.writes++
	return api.OK
}

// has tells whether the page n is in use.
func (d *Disk) has(n int) bool {
	return n >= 0 && n < len(d.pages) && d.pages[n] != nil
}

// Live answers how many pages are in use.
func (d *Disk) Live() int {
	if d == nil {
		return 0
	}
	return d.live
}

// Ops answers how many operations were asked for, those that were refused too.
func (d *Disk) Ops() int {
	if d == nil {
		return 0
	}
	return d.ops
}

// Writes answers how many Writes were OK.
func (d *Disk) Writes() int {
	if d == nil {
		return 0
	}
	return d.writes
}

// Numbers answers the numbers of the pages in use, rising.
func (d *Disk) Numbers() []int {
	if d == nil {
		return nil
	}
	var l []int
	for n, p := range d.pages {
		if p != nil {
			l = append(l, n)
		}
	}
	return l
}

// Look answers the bytes of the page n as they stand, without an operation.
func (d *Disk) Look(n int) ([]byte, bool) {
	if d == nil || !d.has(n) {
		return nil, false
	}
	return slices.Clone(d.pages[n]), true
}
