package tape_test

import (
	"bytes"
	"encoding/binary"
	"math"
	"slices"
	"testing"

	"aqueduct/api"
	"aqueduct/disk"
	"aqueduct/ledger"
	"aqueduct/seal"
)

// step is an operation that a Writer asks for, and the call that asks: the number of the Add, or the Close behind them.
type step struct {
	call  int
	alloc bool
}

// steps are those of a Writer: an Alloc for each page, behind it a Write of the one ahead; the last one's at Close.
func steps(recs [][]byte, room int) []step {
	var l []step
	begun := 0
	for i, n := range ends(recs, room) {
		for ; begun < n; begun++ {
			l = append(l, step{i, true})
			if begun > 0 {
				l = append(l, step{i, false})
			}
		}
	}
	if begun > 0 {
		l = append(l, step{len(recs), false})
	}
	return l
}

// failed is the error of a fault at that operation.
func (s step) failed(kind int) api.Errno {
	switch {
	case s.alloc && kind == disk.Full:
		return api.ErrFull
	case !s.alloc && kind == disk.Write:
		return api.ErrIO
	}
	return api.OK
}

// wantFailure writes the records: the call of that number answers the error, and the Writer is broken then.
func wantFailure(t *testing.T, d *disk.Disk, recs [][]byte, call int, e api.Errno) {
	t.Helper()
	numbers := d.Numbers()
	l := ledger.New(1000)
	l.Take(others)
	w := create(t, d, l)
	for _, b := range recs[:call] {
		wantErr(t, "Add ahead", w.Add(b), api.OK)
		wantHeld(t, l, others+d.Page())
	}
	if call < len(recs) {
		wantErr(t, "Add", w.Add(recs[call]), e)
	} else if tp, f := w.Close(); tp != nil || f != e {
		t.Errorf("Close: %v, %v, want nil, %v", tp, f, e)
	}
	wantBrokenWriter := func() {
		t.Helper()
		wantHeld(t, l, others)
		if !slices.Equal(d.Numbers(), numbers) {
			t.Errorf("pages %v, want %v", d.Numbers(), numbers)
		}
	}
	wantBrokenWriter()
	wantOver(t, w)
	wantErr(t, "Add of one too long", w.Add(make([]byte, longest+1)), api.ErrState)
	wantBrokenWriter()
}

func TestWriterOnADiskThatFails(t *testing.T) {
	for _, page := range []int{64, 256, 4096} {
		room := seal.Room(page)
		for what, recs := range edges(room) {
			all := steps(recs, room)
			for i, s := range all {
				for _, kind := range []int{disk.Read, disk.Write, disk.Full, disk.Turn} {
					d := holed(t, page, 1000)
					d.Plan([]disk.Fault{{At: i + 1, Kind: kind}})
					if e := s.failed(kind); e != api.OK {
						wantFailure(t, d, recs, s.call, e)
						continue
					}
					wantAll(t, write(t, d, recs), recs)
				}
			}
			d := holed(t, page, 1000)
			ops := d.Ops()
			write(t, d, recs)
			if d.Ops()-ops != len(all) {
				t.Errorf("%s: %d operations, want %d", what, d.Ops()-ops, len(all))
			}
		}
	}
}

// TestBrokenWriterAsksNoMore holds that the calls behind an error are no operations, so that pages that another has since are left alone.
func TestBrokenWriterAsksNoMore(t *testing.T) {
	d := newDisk(t, 64, 100)
	d.Plan([]disk.Fault{{At: 5, Kind: disk.Write}})
	w := create(t, d, ledger.New(0))
	wantErr(t, "Add", w.Add(noise(200, 1)), api.ErrIO)
	wantLive(t, d, 0)
	recs := records(100, 100)
	tp := write(t, d, recs)
	ops := d.Ops()
	wantOver(t, w)
	if d.Ops() != ops {
		t.Errorf("a broken Writer: %d operations", d.Ops()-ops)
	}
	wantAll(t, tp, recs)
}

func TestWriterOnADiskThatIsFull(t *testing.T) {
	for what, recs := range edges(54) {
		all := ends(recs, 54)
		if len(all) == 0 {
			continue
		}
		for most := range all[len(all)-1] {
			call, _ := slices.BinarySearch(all, most+1)
			wantFailure(t, newDisk(t, 64, most), recs, call, api.ErrFull)
		}
		d := newDisk(t, 64, all[len(all)-1])
		tp := write(t, d, recs)
		if !slices.Equal(tp.Pages(), d.Numbers()) {
			t.Errorf("%s: Pages %v of %v", what, tp.Pages(), d.Numbers())
		}
		wantAll(t, tp, recs)
	}
}

// TestLongestRecordOnADiskOfSmallPages needs more of them than a disk has.
func TestLongestRecordOnADiskOfSmallPages(t *testing.T) {
	wantFailure(t, newDisk(t, 64, api.MaxPages), [][]byte{noise(9, 1), noise(longest, 2)}, 1, api.ErrFull)
}

func TestReaderOnADiskThatFails(t *testing.T) {
	for _, page := range []int{64, 256, 4096} {
		room := seal.Room(page)
		for _, recs := range edges(room) {
			d := holed(t, page, 1000)
			tp := write(t, d, recs)
			for i := range tp.Pages() {
				whole, _ := slices.BinarySearch(ends(recs, room), i+1)
				for kind, e := range []api.Errno{disk.Read: api.ErrIO, disk.Turn: api.ErrSum} {
					d.Plan([]disk.Fault{{At: i + 1, Kind: kind}})
					if e == api.OK {
						wantAll(t, tp, recs)
						continue
					}
					wantBroken(t, tp, recs[:whole], e)
					wantAll(t, tp, recs)
				}
			}
		}
	}
}

// TestBrokenReaderReadsNoMore is of a fault that is over when it is asked again.
func TestBrokenReaderReadsNoMore(t *testing.T) {
	d := newDisk(t, 64, 100)
	tp := write(t, d, records(100, 3))
	d.Plan([]disk.Fault{{At: 2, Kind: disk.Read}})
	r := tp.Open(ledger.New(0))
	wantNext(t, r, nil, false, api.ErrIO)
	ops := d.Ops()
	for range 3 {
		wantNext(t, r, nil, false, api.ErrState)
	}
	if d.Ops() != ops {
		t.Errorf("a broken Reader: %d operations", d.Ops()-ops)
	}
}

func TestPagesThatWereTurned(t *testing.T) {
	recs := records(3, 90, 0, 40, 7)
	d := newDisk(t, 64, 100)
	tp := write(t, d, recs)
	for i, n := range tp.Pages() {
		whole, _ := slices.BinarySearch(ends(recs, 54), i+1)
		for bit := range 8 * 64 {
			for _, mask := range []uint32{1, 0x80000001, math.MaxUint32, 0x82F63B79} {
				d.Turn(n, bit, mask)
				wantBroken(t, tp, recs[:whole], api.ErrSum)
				d.Turn(n, bit, mask)
			}
		}
	}
	wantAll(t, tp, recs)
}

func TestPagesSealedWithAnotherNext(t *testing.T) {
	recs := records(3, 90, 0, 40, 7)
	d := newDisk(t, 64, 100)
	tp, other := write(t, d, recs), write(t, d, recs)
	pages := tp.Pages()
	nexts := append(append([]int{-1, 50, api.MaxPages - 1}, pages...), other.Pages()...)
	for i, n := range pages {
		whole, _ := slices.BinarySearch(ends(recs, 54), i+1)
		var right int
		for _, next := range nexts {
			reseal(t, d, n, func(old int, data []byte) (int, []byte) {
				right = old
				return next, data
			})
			if next == right {
				wantAll(t, tp, recs)
			} else {
				wantBroken(t, tp, recs[:whole], api.ErrForm)
			}
			reseal(t, d, n, func(_ int, data []byte) (int, []byte) { return right, data })
		}
	}
	wantAll(t, tp, recs)
	wantAll(t, other, recs)
}

func TestPagesThatWereChanged(t *testing.T) {
	d := newDisk(t, 64, 100)
	recs := records(90, 90)
	tp, other := write(t, d, recs), write(t, d, records(90, 91))
	a, b := tp.Pages()[2], other.Pages()[2]
	one, _ := d.Look(a)
	two, _ := d.Look(b)
	d.Write(a, two)
	d.Write(b, one)
	wantBroken(t, tp, recs[:1], api.ErrForm)
	wantBroken(t, other, recs[:1], api.ErrForm)
}

// TestPageThatIsNone is one whose sum is right, its numbers none that may be, and one that is noughts.
func TestPageThatIsNone(t *testing.T) {
	d := newDisk(t, 64, 100)
	recs := records(3, 90)
	tp := write(t, d, recs)
	b, _ := d.Look(tp.Pages()[1])
	b[4] = 55
	binary.LittleEndian.PutUint32(b[60:], seal.Sum(b[:60]))
	d.Write(tp.Pages()[1], b)
	wantBroken(t, tp, recs[:1], api.ErrForm)
	d.Write(tp.Pages()[1], make([]byte, 64))
	wantBroken(t, tp, recs[:1], api.ErrSum)
}

// anew writes all of a tape's pages anew, of other data.
func anew(t *testing.T, d *disk.Disk, pages []int, data []byte) {
	t.Helper()
	for _, n := range pages {
		k := min(len(data), d.Page()-10)
		reseal(t, d, n, func(next int, _ []byte) (int, []byte) { return next, data[:k] })
		data = data[k:]
	}
}

func TestRecordThatGoesBeyondTheEnd(t *testing.T) {
	for _, lengths := range [][]int{{5}, {0}, {50}, {51}, {49}, {3, 5}, {46, 0}, {47, 0}, {48, 5}, {49, 0}, {50, 0}, {200}, {9, 300}, {100, 100, 4}} {
		recs := records(lengths...)
		s := stream(recs)
		last := len(recs) - 1
		at := len(stream(recs[:last]))
		for _, more := range []uint32{1, 2, 100, 1 << 16, longest, 1 << 24, math.MaxInt32 - 1000, math.MaxUint32 - 1000} {
			d := newDisk(t, 64, 100)
			tp := write(t, d, recs)
			c := bytes.Clone(s)
			binary.LittleEndian.PutUint32(c[at:], uint32(len(recs[last]))+more)
			anew(t, d, tp.Pages(), c)
			wantBroken(t, tp, recs[:last], api.ErrForm)
		}
		for cut := at; cut < len(s); cut++ {
			d := newDisk(t, 64, 100)
			tp := write(t, d, recs)
			anew(t, d, tp.Pages(), s[:cut])
			wantBroken(t, tp, recs[:last], api.ErrForm)
		}
	}
}

// TestPagesThatAreNotFull are read as what they hold: nothing asks that a page be full.
func TestPagesThatAreNotFull(t *testing.T) {
	recs := records(30, 100)
	d := newDisk(t, 64, 100)
	tp := write(t, d, recs)
	s := stream([][]byte{recs[0], noise(60, 2)})
	pages := tp.Pages()
	if len(pages) != 3 {
		t.Fatalf("Pages %v", pages)
	}
	for _, cuts := range [][2]int{{0, 50}, {44, 44}, {50, 90}, {44, 98}, {54, 54}} {
		anew(t, d, pages[:1], s[:cuts[0]])
		anew(t, d, pages[1:2], s[cuts[0]:cuts[1]])
		anew(t, d, pages[2:], s[cuts[1]:])
		wantAll(t, tp, [][]byte{recs[0], noise(60, 2)})
	}
}

// TestErrorOfTheDiskComesFirst has a record that goes beyond the end, and a page on the way there that is not read.
func TestErrorOfTheDiskComesFirst(t *testing.T) {
	d := newDisk(t, 64, 100)
	tp := write(t, d, records(200))
	reseal(t, d, tp.Pages()[0], func(next int, data []byte) (int, []byte) {
		data[1] = 9
		return next, data
	})
	wantBroken(t, tp, nil, api.ErrForm)
	d.Plan([]disk.Fault{{At: 3, Kind: disk.Read}})
	wantBroken(t, tp, nil, api.ErrIO)
	d.Plan([]disk.Fault{{At: 4, Kind: disk.Turn}})
	wantBroken(t, tp, nil, api.ErrSum)
}

// TestSumComesAheadOfTheNext is of a page that says another next and was turned.
func TestSumComesAheadOfTheNext(t *testing.T) {
	d := newDisk(t, 64, 100)
	tp := write(t, d, records(100))
	reseal(t, d, tp.Pages()[0], func(_ int, data []byte) (int, []byte) { return 9, data })
	wantBroken(t, tp, nil, api.ErrForm)
	d.Turn(tp.Pages()[0], 100, 1)
	wantBroken(t, tp, nil, api.ErrSum)
	d.Plan([]disk.Fault{{At: 1, Kind: disk.Read}})
	wantBroken(t, tp, nil, api.ErrIO)
}
