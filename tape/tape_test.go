package tape_test

import (
	"bytes"
	"slices"
	"testing"

	"aqueduct/api"
	"aqueduct/disk"
	"aqueduct/ledger"
	"aqueduct/seal"
	"aqueduct/tape"
)

func TestNothingAdded(t *testing.T) {
	d := newDisk(t, 64, 0)
	tp := write(t, d, nil)
	if tp.Count() != 0 || len(tp.Pages()) != 0 {
		t.Errorf("Count %d, Pages %v", tp.Count(), tp.Pages())
	}
	wantAll(t, tp, nil)
	wantErr(t, "Drop", tp.Drop(), api.OK)
	wantErr(t, "Drop again", tp.Drop(), api.ErrState)
	wantOps(t, "nothing", d, 0, 0)
}

// TestWhatIsWrittenIsRead goes over the edges at each page's size: the pages as the chapter lays them out, and what is read of them.
func TestWhatIsWrittenIsRead(t *testing.T) {
	for _, page := range sizes {
		room := seal.Room(page)
		for what, recs := range edges(room) {
			d := holed(t, page, 1000)
			tp := write(t, d, recs)
			if tp.Count() != len(recs) {
				t.Errorf("%d, %s: Count %d, want %d", page, what, tp.Count(), len(recs))
			}
			wantLaid(t, d, tp, chunks(recs, room))
			wantAll(t, tp, recs)
			wantAll(t, tp, recs)
			wantLive(t, d, 8+len(chunks(recs, room)))
			wantErr(t, "Drop", tp.Drop(), api.OK)
			wantLive(t, d, 8)
		}
	}
}

// wantLaid looks at the pages: their numbers the least that were free, the data, the next of each.
func wantLaid(t *testing.T, d *disk.Disk, tp *tape.Tape, data [][]byte) {
	t.Helper()
	numbers := []int{0, 3, 4, 9}
	for n := 12; len(numbers) < len(data); n++ {
		numbers = append(numbers, n)
	}
	numbers = numbers[:len(data)]
	if !slices.Equal(tp.Pages(), numbers) {
		t.Errorf("Pages %v, want %v", tp.Pages(), numbers)
		return
	}
	for i, n := range numbers {
		next := -1
		if i+1 < len(numbers) {
			next = numbers[i+1]
		}
		want, _ := seal.Close(d.Page(), next, data[i])
		if b, ok := d.Look(n); !ok || !bytes.Equal(b, want) {
			t.Errorf("page %d of %d: %v, want %v", i, len(numbers), b, want)
		}
	}
}

// TestPagesAsTheyFill adds records of one byte and asks the disk after each.
func TestPagesAsTheyFill(t *testing.T) {
	d := newDisk(t, 64, 100)
	w := create(t, d, ledger.New(0))
	wantOps(t, "Create", d, 0, 0)
	const room = 54
	for i := range 200 {
		wantErr(t, "Add", w.Add([]byte{byte(i)}), api.OK)
		begun := ((i+1)*5 + room - 1) / room
		wantOps(t, "Add", d, 2*begun-1, begun-1)
		wantLive(t, d, begun)
	}
	begun := (200*5 + room - 1) / room
	tp, e := w.Close()
	wantErr(t, "Close", e, api.OK)
	wantOps(t, "Close", d, 2*begun, begun)
	if len(tp.Pages()) != begun || tp.Count() != 200 {
		t.Errorf("Count %d, Pages %v", tp.Count(), tp.Pages())
	}
}

// TestFullPageWaitsForTheNext fills a page to its last byte: it is written with the next one's number, or as the last at Close.
func TestFullPageWaitsForTheNext(t *testing.T) {
	for _, page := range sizes {
		room := seal.Room(page)
		d := newDisk(t, page, 3)
		w := create(t, d, ledger.New(0))
		wantErr(t, "Add", w.Add(noise(room-4, 1)), api.OK)
		wantOps(t, "a full page", d, 1, 0)
		wantErr(t, "Add of nothing", w.Add(nil), api.OK)
		wantOps(t, "its next", d, 3, 1)
		wantErr(t, "Add", w.Add(noise(room-8, 2)), api.OK)
		wantOps(t, "a second full page", d, 3, 1)
		tp, e := w.Close()
		wantErr(t, "Close", e, api.OK)
		wantOps(t, "Close", d, 4, 2)
		wantAll(t, tp, [][]byte{noise(room-4, 1), nil, noise(room-8, 2)})
		wantOps(t, "read", d, 6, 2)
	}
}

// TestPagesAreReadWhenTheyAreNeeded counts the Reads behind each Next.
func TestPagesAreReadWhenTheyAreNeeded(t *testing.T) {
	for what, recs := range edges(54) {
		d := newDisk(t, 64, 1000)
		tp := write(t, d, recs)
		ops, writes := d.Ops(), d.Writes()
		r := tp.Open(ledger.New(0))
		wantOps(t, what+": Open", d, ops, writes)
		for i, n := range ends(recs, 54) {
			wantNext(t, r, recs[i], true, api.OK)
			wantOps(t, what+": Next", d, ops+n, writes)
		}
		wantNext(t, r, nil, false, api.OK)
		wantOps(t, what+": the end", d, ops+len(tp.Pages()), writes)
	}
}

func TestLongestRecordAndOneByteLonger(t *testing.T) {
	for _, page := range []int{128, 4096} {
		recs := [][]byte{noise(5, 1), noise(longest, 2), nil, noise(9, 3)}
		d := newDisk(t, page, api.MaxPages)
		l := ledger.New(0)
		w := create(t, d, l)
		for _, b := range recs {
			ops, live := d.Ops(), d.Live()
			wantErr(t, "Add of one byte more", w.Add(make([]byte, longest+1)), api.ErrLong)
			wantErr(t, "Add of many more", w.Add(make([]byte, 2*longest)), api.ErrLong)
			wantHeld(t, l, page)
			wantLive(t, d, live)
			if d.Ops() != ops {
				t.Errorf("a record too long: %d operations", d.Ops()-ops)
			}
			wantErr(t, "Add", w.Add(b), api.OK)
		}
		wantErr(t, "Add of one byte more", w.Add(make([]byte, longest+1)), api.ErrLong)
		tp, e := w.Close()
		wantErr(t, "Close", e, api.OK)
		if pages := len(chunks(recs, seal.Room(page))); tp.Count() != 4 || len(tp.Pages()) != pages {
			t.Errorf("Count %d, %d pages, want 4, %d", tp.Count(), len(tp.Pages()), pages)
		}
		wantAll(t, tp, recs)
	}
}

func TestRecordTooLongAlone(t *testing.T) {
	d := newDisk(t, 64, 10)
	w := create(t, d, ledger.New(0))
	wantErr(t, "Add", w.Add(make([]byte, longest+1)), api.ErrLong)
	tp, e := w.Close()
	wantErr(t, "Close", e, api.OK)
	if tp.Count() != 0 || len(tp.Pages()) != 0 || d.Ops() != 0 {
		t.Errorf("Count %d, Pages %v, Ops %d", tp.Count(), tp.Pages(), d.Ops())
	}
}

func TestWriterThatIsClosed(t *testing.T) {
	for _, recs := range [][][]byte{nil, records(3), records(54, 100, 0)} {
		d := newDisk(t, 64, 100)
		l := ledger.New(0)
		l.Take(others)
		w := create(t, d, l)
		for _, b := range recs {
			w.Add(b)
		}
		tp, e := w.Close()
		wantErr(t, "Close", e, api.OK)
		ops := d.Ops()
		wantOver(t, w)
		wantErr(t, "Add of one too long", w.Add(make([]byte, longest+1)), api.ErrState)
		wantHeld(t, l, others)
		wantLive(t, d, len(tp.Pages()))
		wantOps(t, "a closed Writer", d, ops, len(tp.Pages()))
		wantAll(t, tp, recs)
	}
}

func TestWriterThatIsAborted(t *testing.T) {
	for what, recs := range edges(54) {
		d := holed(t, 64, 1000)
		numbers := d.Numbers()
		l := ledger.New(1000)
		l.Take(others)
		w := create(t, d, l)
		for _, b := range recs {
			wantErr(t, "Add", w.Add(b), api.OK)
		}
		w.Abort()
		wantHeld(t, l, others)
		wantOver(t, w)
		wantHeld(t, l, others)
		if !slices.Equal(d.Numbers(), numbers) {
			t.Errorf("%s: pages %v, want %v", what, d.Numbers(), numbers)
		}
	}
}

// TestAbortedPagesAreFreedOnce lets another take the numbers: a further Abort leaves them alone.
func TestAbortedPagesAreFreedOnce(t *testing.T) {
	d := newDisk(t, 64, 100)
	w := create(t, d, ledger.New(0))
	w.Add(noise(200, 1))
	w.Abort()
	tp := write(t, d, records(200, 9))
	ops := d.Ops()
	w.Abort()
	w.Close()
	if d.Ops() != ops {
		t.Errorf("an aborted Writer: %d operations", d.Ops()-ops)
	}
	wantAll(t, tp, records(200, 9))
}

func TestDropIsOfThatTapeAlone(t *testing.T) {
	d := holed(t, 64, 100)
	one, two := write(t, d, records(100, 3, 200)), write(t, d, records(70, 70))
	live := d.Live()
	wantErr(t, "Drop", one.Drop(), api.OK)
	wantLive(t, d, live-len(one.Pages()))
	wantAll(t, two, records(70, 70))
	three := write(t, d, records(100, 3, 200))
	ops := d.Ops()
	wantErr(t, "Drop again", one.Drop(), api.ErrState)
	wantErr(t, "Drop again", one.Drop(), api.ErrState)
	if d.Ops() != ops {
		t.Errorf("a tape dropped again: %d operations", d.Ops()-ops)
	}
	wantAll(t, two, records(70, 70))
	wantAll(t, three, records(100, 3, 200))
	wantErr(t, "Drop", two.Drop(), api.OK)
	wantErr(t, "Drop", three.Drop(), api.OK)
	wantLive(t, d, 8)
}

func TestDroppedTapeIsNotRead(t *testing.T) {
	d := newDisk(t, 64, 100)
	tp := write(t, d, records(50, 50, 50))
	l := ledger.New(0)
	r := tp.Open(l)
	wantNext(t, r, records(50)[0], true, api.OK)
	wantErr(t, "Drop", tp.Drop(), api.OK)
	wantNext(t, r, nil, false, api.ErrNone)
	wantHeld(t, l, 0)
	wantNext(t, r, nil, false, api.ErrState)
	wantBroken(t, tp, nil, api.ErrNone)
}

// TestDropWithPagesGone drops a tape of which somebody freed a page.
func TestDropWithPagesGone(t *testing.T) {
	d := newDisk(t, 64, 100)
	tp := write(t, d, records(50, 50, 50))
	wantErr(t, "Free", d.Free(tp.Pages()[1]), api.OK)
	wantErr(t, "Drop", tp.Drop(), api.OK)
	wantLive(t, d, 0)
	wantErr(t, "Drop again", tp.Drop(), api.ErrState)
}

// TestByTurns writes two tapes by turns on one disk, and reads them by turns, one of them twice at a time.
func TestByTurns(t *testing.T) {
	for _, page := range sizes {
		d := newDisk(t, page, 1000)
		l := ledger.New(0)
		a, b := edges(seal.Room(page))["of all lengths"], records(200, 0, 77, 5, 5, 300, 1, 2, 3, 4, 150, 60, 9)
		v, w := create(t, d, l), create(t, d, l)
		wantHeld(t, l, 2*page)
		for i := range a {
			wantErr(t, "Add", v.Add(a[i]), api.OK)
			wantErr(t, "Add", w.Add(b[i]), api.OK)
		}
		one, _ := v.Close()
		wantHeld(t, l, page)
		two, _ := w.Close()
		wantHeld(t, l, 0)
		r, s, u := one.Open(l), two.Open(l), one.Open(l)
		wantHeld(t, l, 3*page)
		for i := range a {
			wantNext(t, r, a[i], true, api.OK)
			wantNext(t, s, b[i], true, api.OK)
			wantNext(t, u, a[i], true, api.OK)
		}
		wantNext(t, r, nil, false, api.OK)
		wantHeld(t, l, 2*page)
		wantNext(t, s, nil, false, api.OK)
		wantNext(t, u, nil, false, api.OK)
		wantHeld(t, l, 0)
		wantErr(t, "Drop", one.Drop(), api.OK)
		wantAll(t, two, b)
	}
}

func TestListsAreNotShared(t *testing.T) {
	d := newDisk(t, 64, 100)
	w := create(t, d, ledger.New(0))
	b := append(make([]byte, 0, 200), noise(100, 1)...)
	for range 2 {
		wantErr(t, "Add", w.Add(b), api.OK)
		if !bytes.Equal(b, noise(100, 1)) || !bytes.Equal(b[100:200], make([]byte, 100)) {
			t.Errorf("Add changed what was handed in: %v", b[:200])
		}
	}
	clear(b)
	tp, _ := w.Close()
	p := tp.Pages()
	clear(p[:cap(p)])
	if !slices.Equal(tp.Pages(), []int{0, 1, 2, 3}) {
		t.Errorf("Pages: %v", tp.Pages())
	}
	r := tp.Open(ledger.New(0))
	one, _, _ := r.Next()
	kept := bytes.Clone(one)
	clear(one[:cap(one)])
	two, _, _ := r.Next()
	if !bytes.Equal(kept, noise(100, 1)) || !bytes.Equal(two, noise(100, 1)) {
		t.Errorf("records: %v, %v", kept, two)
	}
	clear(two)
	wantAll(t, tp, [][]byte{noise(100, 1), noise(100, 1)})
}

func TestNil(t *testing.T) {
	d, l := newDisk(t, 64, 10), ledger.New(0)
	for _, w := range []*tape.Writer{nil, tape.Create(nil, l), tape.Create(d, nil), tape.Create(nil, nil)} {
		if w != nil {
			t.Errorf("Create with nil: %v", w)
		}
		wantErr(t, "Add", w.Add(nil), api.ErrArg)
		wantErr(t, "Add", w.Add(make([]byte, longest+1)), api.ErrArg)
		tp, e := w.Close()
		if tp != nil || e != api.ErrArg {
			t.Errorf("Close: %v, %v", tp, e)
		}
		w.Abort()
	}
	var none *tape.Tape
	if none.Count() != 0 || len(none.Pages()) != 0 {
		t.Errorf("Count %d, Pages %v", none.Count(), none.Pages())
	}
	wantErr(t, "Drop", none.Drop(), api.ErrArg)
	tp := write(t, d, records(9))
	for _, r := range []*tape.Reader{nil, none.Open(l), none.Open(nil), tp.Open(nil)} {
		if r != nil {
			t.Errorf("Open with nil: %v", r)
		}
		wantNext(t, r, nil, false, api.ErrArg)
		r.Close()
		wantNext(t, r, nil, false, api.ErrArg)
	}
	wantHeld(t, l, 0)
	wantLive(t, d, 1)
}

// TestObjectsThatNobodyMade are zero ones: they end, and none panics.
func TestObjectsThatNobodyMade(t *testing.T) {
	var w tape.Writer
	wantErr(t, "Add", w.Add([]byte{1}), api.ErrArg)
	wantOver(t, &w)
	w = tape.Writer{}
	if tp, e := w.Close(); e != api.OK || tp.Count() != 0 {
		t.Errorf("Close: %v, %v", tp, e)
	}
	w = tape.Writer{}
	w.Abort()
	var tp tape.Tape
	wantNext(t, tp.Open(ledger.New(0)), nil, false, api.OK)
	wantErr(t, "Drop", tp.Drop(), api.OK)
	var r tape.Reader
	wantNext(t, &r, nil, false, api.OK)
	r.Close()
	l := ledger.New(0)
	v := create(t, new(disk.Disk), l)
	wantErr(t, "Add", v.Add([]byte{1}), api.ErrFull)
	wantHeld(t, l, 0)
}
