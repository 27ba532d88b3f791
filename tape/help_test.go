package tape_test

import (
	"bytes"
	"encoding/binary"
	"slices"
	"testing"

	"aqueduct/api"
	"aqueduct/disk"
	"aqueduct/ledger"
	"aqueduct/seal"
	"aqueduct/tape"
)

// longest is how long a record may be.
const longest = 16*api.MaxBytes + 64

// others is what somebody else holds of a ledger: enough for a page that is given back twice to be missed there.
const others = 10000

// sizes are those that a page may have.
var sizes = []int{64, 128, 256, 512, 1024, 2048, 4096}

// noise is n bytes that look like none of a pattern, the same ones for the same seed.
func noise(n, seed int) []byte {
	b := make([]byte, n)
	s := uint32(seed)*2654435761 + uint32(n)
	for i := range b {
		s = s*1664525 + 1013904223
		b[i] = byte(s >> 24)
	}
	return b
}

// records is a list of noise, of those lengths.
func records(lengths ...int) [][]byte {
	l := [][]byte{}
	for i, n := range lengths {
		l = append(l, noise(n, i+1))
	}
	return l
}

// edges are lists of records that end, or are cut, where pages of that room end.
func edges(room int) map[string][][]byte {
	return map[string][][]byte{
		"none":                           records(),
		"one, empty":                     records(0),
		"many, empty":                    records(make([]int, room)...),
		"one of one byte":                records(1),
		"ends just where a page does":    records(room - 4),
		"ends one byte ahead":            records(room - 5),
		"ends one byte behind":           records(room - 3),
		"a page's room":                  records(room),
		"ends where the second does":     records(2*room - 4),
		"one byte ahead of that":         records(2*room - 5),
		"one byte behind that":           records(2*room - 3),
		"a page each":                    records(room-4, room-4, room-4),
		"an empty one ends it":           records(room-8, 0, 0, 3),
		"length behind a page's end":     records(room-4, 5),
		"length's first byte ahead":      records(room-5, 5),
		"length's first two ahead":       records(room-6, 5),
		"length's first three ahead":     records(room-7, 5),
		"length cut, empty":              records(room-5, 0),
		"length cut in two, empty":       records(room-6, 0),
		"length cut after three, empty":  records(room-7, 0),
		"length ends the page":           records(room-8, 5),
		"length ends the page, and long": records(room-8, 3*room),
		"many pages":                     records(10*room + 7),
		"many pages between short ones":  records(3, 9*room, 0, 11*room+1, 1),
		"of all lengths":                 records(1, 300, 2, 0, 77, room-1, room, room+1, 5, 4*room, 0, 0, 9),
	}
}

// stream is the bytes of the records as the chapter lays them out.
func stream(l [][]byte) []byte {
	var s []byte
	for _, b := range l {
		s = binary.LittleEndian.AppendUint32(s, uint32(len(b)))
		s = append(s, b...)
	}
	return s
}

// chunks are the data of each page.
func chunks(l [][]byte, room int) [][]byte {
	return slices.Collect(slices.Chunk(stream(l), room))
}

// ends tells, record by record, on how many pages the list stands up to there.
func ends(l [][]byte, room int) []int {
	var pages []int
	n := 0
	for _, b := range l {
		n += 4 + len(b)
		pages = append(pages, (n+room-1)/room)
	}
	return pages
}

func newDisk(t *testing.T, page, most int) *disk.Disk {
	t.Helper()
	d, e := disk.New(page, most)
	if e != api.OK {
		t.Fatalf("disk.New(%d, %d): %v", page, most, e)
	}
	return d
}

// holed is a disk on which some pages are in use, so that the free numbers have gaps.
func holed(t *testing.T, page, most int) *disk.Disk {
	t.Helper()
	d := newDisk(t, page, most)
	for range 12 {
		d.Alloc()
	}
	for _, n := range []int{0, 3, 4, 9} {
		d.Free(n)
	}
	return d
}

func create(t *testing.T, d *disk.Disk, l *ledger.Ledger) *tape.Writer {
	t.Helper()
	w := tape.Create(d, l)
	if w == nil {
		t.Fatal("Create: nil")
	}
	return w
}

// write makes a tape of the records.
func write(t *testing.T, d *disk.Disk, recs [][]byte) *tape.Tape {
	t.Helper()
	w := create(t, d, ledger.New(0))
	for i, b := range recs {
		if e := w.Add(b); e != api.OK {
			t.Fatalf("Add of record %d: %v", i, e)
		}
	}
	tp, e := w.Close()
	if e != api.OK || tp == nil {
		t.Fatalf("Close: %v, %v", tp, e)
	}
	return tp
}

// read brings what a Reader brings till it brings no more, and the error.
func read(r *tape.Reader) ([][]byte, api.Errno) {
	l := [][]byte{}
	for {
		b, ok, e := r.Next()
		if !ok {
			return l, e
		}
		l = append(l, b)
	}
}

func same(a, b [][]byte) bool {
	return slices.EqualFunc(a, b, bytes.Equal)
}

// wantAll reads the tape to its end and on.
func wantAll(t *testing.T, tp *tape.Tape, recs [][]byte) {
	t.Helper()
	l := ledger.New(0)
	l.Take(others)
	r := tp.Open(l)
	got, e := read(r)
	if e != api.OK || !same(got, recs) {
		t.Errorf("read %d records, %v, want %d", len(got), e, len(recs))
	}
	for range 3 {
		wantNext(t, r, nil, false, api.OK)
	}
	wantHeld(t, l, others)
}

// wantBroken reads the tape: the first records, then the error, then ErrState.
func wantBroken(t *testing.T, tp *tape.Tape, recs [][]byte, e api.Errno) {
	t.Helper()
	l := ledger.New(100)
	l.Take(others)
	r := tp.Open(l)
	got, f := read(r)
	if !same(got, recs) || f != e {
		t.Errorf("read %d records, then %v, want %d, then %v", len(got), f, len(recs), e)
	}
	wantHeld(t, l, others)
	wantNext(t, r, nil, false, api.ErrState)
	r.Close()
	wantNext(t, r, nil, false, api.ErrState)
	wantHeld(t, l, others)
}

func wantNext(t *testing.T, r *tape.Reader, want []byte, ok bool, e api.Errno) {
	t.Helper()
	b, k, f := r.Next()
	if !bytes.Equal(b, want) || k != ok || f != e {
		t.Errorf("Next: %v, %v, %v, want %v, %v, %v", b, k, f, want, ok, e)
	}
}

func wantErr(t *testing.T, what string, got, want api.Errno) {
	t.Helper()
	if got != want {
		t.Errorf("%s: %v, want %v", what, got, want)
	}
}

// wantOver asks a Writer that is closed, aborted or broken.
func wantOver(t *testing.T, w *tape.Writer) {
	t.Helper()
	for range 2 {
		wantErr(t, "Add", w.Add([]byte{1}), api.ErrState)
		wantErr(t, "Add of nothing", w.Add(nil), api.ErrState)
		tp, e := w.Close()
		if tp != nil || e != api.ErrState {
			t.Errorf("Close: %v, %v, want nil, ErrState", tp, e)
		}
		w.Abort()
	}
}

func wantHeld(t *testing.T, l *ledger.Ledger, n int) {
	t.Helper()
	if l.Held() != n {
		t.Errorf("Held %d, want %d", l.Held(), n)
	}
}

func wantLive(t *testing.T, d *disk.Disk, n int) {
	t.Helper()
	if d.Live() != n {
		t.Errorf("Live %d, want %d", d.Live(), n)
	}
}

func wantOps(t *testing.T, what string, d *disk.Disk, ops, writes int) {
	t.Helper()
	if d.Ops() != ops || d.Writes() != writes {
		t.Errorf("%s: Ops %d, Writes %d, want %d, %d", what, d.Ops(), d.Writes(), ops, writes)
	}
}

// reseal writes a page of the tape anew: its next and data as change makes them.
func reseal(t *testing.T, d *disk.Disk, n int, change func(next int, data []byte) (int, []byte)) {
	t.Helper()
	b, _ := d.Look(n)
	next, data, e := seal.Open(b)
	if e != api.OK {
		t.Fatalf("page %d: %v", n, e)
	}
	next, data = change(next, data)
	b, e = seal.Close(d.Page(), next, data)
	if e != api.OK {
		t.Fatalf("seal.Close: %v", e)
	}
	wantErr(t, "Write", d.Write(n, b), api.OK)
}
