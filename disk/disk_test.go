package disk_test

import (
	"bytes"
	"math"
	"slices"
	"testing"

	"aqueduct/api"
	"aqueduct/disk"
)

// made makes a disk that may be, with live pages on it.
func made(t *testing.T, page, most, live int) *disk.Disk {
	t.Helper()
	d, e := disk.New(page, most)
	if d == nil || e != api.OK {
		t.Fatalf("New(%d, %d): %v, %v", page, most, d, e)
	}
	for i := range live {
		wantAlloc(t, d, i, api.OK)
	}
	return d
}

// filled is a page's length of the byte c.
func filled(page int, c byte) []byte {
	return bytes.Repeat([]byte{c}, page)
}

func wantErr(t *testing.T, what string, got, want api.Errno) {
	t.Helper()
	if got != want {
		t.Errorf("%s: %v, want %v", what, got, want)
	}
}

func wantInt(t *testing.T, what string, got, want int) {
	t.Helper()
	if got != want {
		t.Errorf("%s: %d, want %d", what, got, want)
	}
}

func wantAlloc(t *testing.T, d *disk.Disk, want int, e api.Errno) {
	t.Helper()
	if n, f := d.Alloc(); n != want || f != e {
		t.Errorf("Alloc: %d, %v, want %d, %v", n, f, want, e)
	}
}

func wantRead(t *testing.T, d *disk.Disk, n int, want []byte, e api.Errno) {
	t.Helper()
	b, f := d.Read(n)
	if !bytes.Equal(b, want) || f != e || e != api.OK && len(b) != 0 {
		t.Errorf("Read(%d): %v, %v, want %v, %v", n, b, f, want, e)
	}
}

func wantLook(t *testing.T, d *disk.Disk, n int, want []byte) {
	t.Helper()
	if b, ok := d.Look(n); !ok || !bytes.Equal(b, want) {
		t.Errorf("Look(%d): %v, %v, want %v", n, b, ok, want)
	}
}

func wantNumbers(t *testing.T, d *disk.Disk, want ...int) {
	t.Helper()
	if l := d.Numbers(); !slices.Equal(l, want) {
		t.Errorf("Numbers: %v, want %v", l, want)
	}
	wantInt(t, "Live", d.Live(), len(want))
}

func TestNewTakesWhatMayBe(t *testing.T) {
	for page := api.MinPage; page <= api.MaxPage; page *= 2 {
		for _, most := range []int{0, 1, api.MaxPages} {
			d := made(t, page, most, 0)
			wantInt(t, "Page", d.Page(), page)
			wantNumbers(t, d)
			wantInt(t, "Ops", d.Ops(), 0)
			wantInt(t, "Writes", d.Writes(), 0)
		}
	}
}

func TestNewRefusesTheRest(t *testing.T) {
	sizes := []int{math.MinInt, -64, -1, 0, 1, 2, 32, 63, 65, 96, 127, 192, 4095, 4097, 8192, 1 << 62, math.MaxInt}
	for _, page := range sizes {
		if d, e := disk.New(page, 1); d != nil || e != api.ErrArg {
			t.Errorf("New(%d, 1): %v, %v", page, d, e)
		}
	}
	for _, most := range []int{math.MinInt, -1, api.MaxPages + 1, math.MaxInt} {
		if d, e := disk.New(64, most); d != nil || e != api.ErrArg {
			t.Errorf("New(64, %d): %v, %v", most, d, e)
		}
	}
}

func TestAllocTakesTheLeastNumber(t *testing.T) {
	d := made(t, 64, 200, 131)
	for _, n := range []int{130, 5, 64, 63} {
		wantErr(t, "Free", d.Free(n), api.OK)
	}
	for _, n := range []int{5, 63, 64, 130, 131} {
		wantAlloc(t, d, n, api.OK)
	}
	wantInt(t, "Live", d.Live(), 132)
}

func TestAllocAnswersTheChaptersExample(t *testing.T) {
	d := made(t, 64, 2, 2)
	wantErr(t, "Free", d.Free(0), api.OK)
	wantAlloc(t, d, 0, api.OK)
}

func TestFreedPageComesAgainEmpty(t *testing.T) {
	d := made(t, 128, 2, 2)
	wantErr(t, "Write", d.Write(0, filled(128, 7)), api.OK)
	wantErr(t, "Free", d.Free(0), api.OK)
	wantNumbers(t, d, 1)
	wantAlloc(t, d, 0, api.OK)
	wantRead(t, d, 0, filled(128, 0), api.OK)
	wantNumbers(t, d, 0, 1)
}

func TestAllocOfAsManyAsMayBeAndOneMore(t *testing.T) {
	for _, most := range []int{0, 1, 63, 64, 65, api.MaxPages} {
		d := made(t, 64, most, most)
		wantAlloc(t, d, 0, api.ErrFull)
		wantInt(t, "Live", d.Live(), most)
		wantInt(t, "Ops", d.Ops(), most+1)
		if most > 0 {
			wantErr(t, "Free", d.Free(most-1), api.OK)
			wantAlloc(t, d, most-1, api.OK)
			wantAlloc(t, d, 0, api.ErrFull)
		}
	}
}

func TestPagesThatAreNotInUse(t *testing.T) {
	d := made(t, 64, 4, 3)
	wantErr(t, "Free(1)", d.Free(1), api.OK)
	for _, n := range []int{math.MinInt, -1, 1, 3, 4, 64, math.MaxInt} {
		wantErr(t, "Free", d.Free(n), api.ErrNone)
		wantRead(t, d, n, nil, api.ErrNone)
		wantErr(t, "Write", d.Write(n, filled(64, 1)), api.ErrNone)
		wantErr(t, "Write of another length", d.Write(n, nil), api.ErrNone)
		if b, ok := d.Look(n); ok || len(b) != 0 {
			t.Errorf("Look(%d): %v, %v", n, b, ok)
		}
		if d.Turn(n, 0, 1) {
			t.Errorf("Turn(%d): true", n)
		}
	}
	wantNumbers(t, d, 0, 2)
	wantInt(t, "Ops", d.Ops(), 4+7*4)
	wantInt(t, "Writes", d.Writes(), 0)
}

func TestWriteOfAnotherLength(t *testing.T) {
	d := made(t, 64, 1, 1)
	wantErr(t, "Write", d.Write(0, filled(64, 3)), api.OK)
	for _, b := range [][]byte{nil, {}, filled(63, 1), filled(65, 1), filled(128, 1)} {
		wantErr(t, "Write", d.Write(0, b), api.ErrArg)
	}
	wantRead(t, d, 0, filled(64, 3), api.OK)
	wantInt(t, "Writes", d.Writes(), 1)
	wantInt(t, "Ops", d.Ops(), 8)
}

func TestListsAreNotShared(t *testing.T) {
	d := made(t, 64, 2, 2)
	b := append(make([]byte, 0, 100), filled(64, 5)...)
	wantErr(t, "Write", d.Write(0, b), api.OK)
	if !bytes.Equal(b, filled(64, 5)) || !bytes.Equal(b[64:100], filled(36, 0)) {
		t.Errorf("Write changed what was handed in: %v", b[:100])
	}
	b[0] = 1
	r, _ := d.Read(0)
	r[1] = 2
	k, _ := d.Look(0)
	k[2] = 3
	d.Numbers()[0] = 9
	wantRead(t, d, 0, filled(64, 5), api.OK)
	wantLook(t, d, 0, filled(64, 5))
	wantNumbers(t, d, 0, 1)
	wantErr(t, "Write", d.Write(0, filled(64, 6)), api.OK)
	if r[0] != 5 || k[0] != 5 {
		t.Errorf("a later Write changed what was answered: %d, %d", r[0], k[0])
	}
}

func TestOnlyOperationsAreCounted(t *testing.T) {
	d := made(t, 64, 1, 1)
	d.Look(0)
	d.Look(1)
	d.Turn(0, 0, 1)
	d.Numbers()
	d.Live()
	d.Page()
	d.Plan(nil)
	wantInt(t, "Ops", d.Ops(), 1)
	d.Write(0, filled(64, 0))
	d.Read(0)
	d.Free(0)
	d.Free(0)
	wantInt(t, "Ops", d.Ops(), 5)
	wantInt(t, "Writes", d.Writes(), 1)
}

func TestDisksAreApart(t *testing.T) {
	a, b := made(t, 64, 2, 1), made(t, 64, 2, 0)
	a.Plan([]disk.Fault{{At: 1, Kind: disk.Full}})
	wantAlloc(t, b, 0, api.OK)
	wantErr(t, "Write", a.Write(0, filled(64, 4)), api.OK)
	wantRead(t, b, 0, filled(64, 0), api.OK)
}

func TestNilDisk(t *testing.T) {
	var d *disk.Disk
	wantAlloc(t, d, 0, api.ErrArg)
	wantErr(t, "Free", d.Free(0), api.ErrArg)
	wantRead(t, d, 0, nil, api.ErrArg)
	wantErr(t, "Write", d.Write(0, filled(64, 0)), api.ErrArg)
	d.Plan([]disk.Fault{{At: 1, Kind: disk.Read}})
	if b, ok := d.Look(0); ok || len(b) != 0 {
		t.Errorf("Look: %v, %v", b, ok)
	}
	if d.Turn(0, 0, 1) {
		t.Error("Turn: true")
	}
	wantInt(t, "Page", d.Page(), 0)
	wantInt(t, "Ops", d.Ops(), 0)
	wantInt(t, "Writes", d.Writes(), 0)
	wantNumbers(t, d)
}

func TestDiskThatNewDidNotMake(t *testing.T) {
	var d disk.Disk
	d.Plan([]disk.Fault{{At: 1, Kind: disk.Turn}})
	wantRead(t, &d, 0, nil, api.ErrNone)
	wantAlloc(t, &d, 0, api.ErrFull)
	wantErr(t, "Free", d.Free(0), api.ErrNone)
	wantErr(t, "Write", d.Write(0, nil), api.ErrNone)
	if d.Turn(0, 0, 1) {
		t.Error("Turn: true")
	}
	wantNumbers(t, &d)
}
