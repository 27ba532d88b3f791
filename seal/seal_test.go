package seal_test

import (
	"bytes"
	"encoding/binary"
	"math"
	"testing"

	"aqueduct/api"
	"aqueduct/disk"
	"aqueduct/seal"
)

// sizes are those that a page may have.
var sizes = []int{64, 128, 256, 512, 1024, 2048, 4096}

// noise is n bytes that look like none of a pattern, the same ones for the same seed.
func noise(n int, seed uint32) []byte {
	b := make([]byte, n)
	for i := range b {
		seed = seed*1664525 + 1013904223
		b[i] = byte(seed >> 24)
	}
	return b
}

// laid is a page as the chapter describes it, its numbers as they are given, the rest behind them what fill says.
func laid(page int, nextAnd1 uint32, count uint16, fill []byte) []byte {
	b := make([]byte, page)
	binary.LittleEndian.PutUint32(b, nextAnd1)
	binary.LittleEndian.PutUint16(b[4:], count)
	copy(b[6:page-4], fill)
	binary.LittleEndian.PutUint32(b[page-4:], slow(b[:page-4]))
	return b
}

// closed is a page that Close takes.
func closed(t *testing.T, page, next int, data []byte) []byte {
	t.Helper()
	b, e := seal.Close(page, next, data)
	if e != api.OK || len(b) != page {
		t.Fatalf("Close(%d, %d, %d bytes): %d bytes, %v", page, next, len(data), len(b), e)
	}
	return b
}

func wantOpen(t *testing.T, b []byte, next int, data []byte) {
	t.Helper()
	n, d, e := seal.Open(b)
	if n != next || !bytes.Equal(d, data) || e != api.OK {
		t.Errorf("Open: %d, %v, %v, want %d, %v", n, d, e, next, data)
	}
}

func wantNoOpen(t *testing.T, what string, b []byte, want api.Errno) {
	t.Helper()
	n, d, e := seal.Open(b)
	if n != 0 || len(d) != 0 || e != want {
		t.Errorf("Open of %s: %d, %v, %v, want %v", what, n, d, e, want)
	}
}

func wantNoClose(t *testing.T, page, next int, data []byte) {
	t.Helper()
	if b, e := seal.Close(page, next, data); len(b) != 0 || e != api.ErrArg {
		t.Errorf("Close(%d, %d, %d bytes): %d bytes, %v", page, next, len(data), len(b), e)
	}
}

func TestRoomOfWhatMayBe(t *testing.T) {
	for _, page := range sizes {
		if r := seal.Room(page); r != page-10 {
			t.Errorf("Room(%d): %d", page, r)
		}
	}
}

func TestRoomAsDiskTakesPages(t *testing.T) {
	taken := 0
	for page := -5000; page <= 20000; page++ {
		want := 0
		if _, e := disk.New(page, 1); e == api.OK {
			want = page - 10
			taken++
		}
		if r := seal.Room(page); r != want {
			t.Errorf("Room(%d): %d, want %d", page, r, want)
		}
	}
	if taken != len(sizes) {
		t.Errorf("%d sizes are taken", taken)
	}
	for _, page := range []int{math.MinInt, -1 << 40, 1 << 32, 1<<32 + 64, 1 << 62, math.MaxInt} {
		if r := seal.Room(page); r != 0 {
			t.Errorf("Room(%d): %d", page, r)
		}
	}
}

func TestCloseLaysThePage(t *testing.T) {
	for _, page := range sizes {
		room := page - 10
		for _, n := range []int{0, 1, 2, room / 2, room - 1, room} {
			for _, next := range []int{-1, 0, 1, 255, 256, 0x1234, api.MaxPages - 2, api.MaxPages - 1} {
				data := noise(n, uint32(n+next))
				b := closed(t, page, next, data)
				if want := laid(page, uint32(next+1), uint16(n), data); !bytes.Equal(b, want) {
					t.Errorf("Close(%d, %d, %d bytes): %v, want %v", page, next, n, b, want)
				}
				wantOpen(t, b, next, data)
			}
		}
	}
}

// The bytes are written out here, so that the layout stands apart from what the tests reckon.
func TestCloseByteByByte(t *testing.T) {
	b := closed(t, 64, 0x1233, []byte("abc"))
	want := make([]byte, 60)
	copy(want, []byte{0x34, 0x12, 0, 0, 3, 0, 'a', 'b', 'c'})
	if !bytes.Equal(b[:60], want) {
		t.Errorf("Close: %v, want %v", b[:60], want)
	}
	s := seal.Sum(want)
	if !bytes.Equal(b[60:], []byte{byte(s), byte(s >> 8), byte(s >> 16), byte(s >> 24)}) {
		t.Errorf("Close: the sum %v, want %#x", b[60:], s)
	}
	if b = closed(t, 1024, -1, make([]byte, 0x304)); b[0] != 0 || b[4] != 4 || b[5] != 3 {
		t.Errorf("Close: begins with %v", b[:6])
	}
}

func TestCloseOfNoData(t *testing.T) {
	for _, page := range sizes {
		for _, data := range [][]byte{nil, {}} {
			b := closed(t, page, -1, data)
			if !bytes.Equal(b[:page-4], make([]byte, page-4)) {
				t.Errorf("Close(%d, -1, no data): %v", page, b)
			}
			wantOpen(t, b, -1, nil)
		}
	}
}

func TestCloseRefuses(t *testing.T) {
	for _, page := range []int{math.MinInt, -64, -1, 0, 1, 10, 32, 63, 65, 96, 127, 129, 4095, 4097, 8192, 1 << 40, math.MaxInt} {
		wantNoClose(t, page, -1, nil)
		wantNoClose(t, page, 0, noise(20, 1))
	}
	for _, page := range sizes {
		for _, next := range []int{math.MinInt, -1 << 32, -3, -2, api.MaxPages, api.MaxPages + 1, 1 << 32, math.MaxInt} {
			wantNoClose(t, page, next, nil)
		}
		for _, n := range []int{page - 9, page - 4, page, page + 1, 1 << 16, 1<<16 + 1} {
			wantNoClose(t, page, 0, make([]byte, n))
		}
	}
}

func TestOpenOfNoPagesLength(t *testing.T) {
	wantNoOpen(t, "nil", nil, api.ErrArg)
	for _, n := range []int{0, 1, 3, 4, 9, 10, 32, 63, 65, 127, 129, 192, 4095, 4097, 8192} {
		wantNoOpen(t, "another length", make([]byte, n), api.ErrArg)
	}
	b := closed(t, 128, 3, noise(100, 1))
	wantNoOpen(t, "less than a page", b[:127], api.ErrArg)
	wantNoOpen(t, "half a page", b[:64], api.ErrSum)
	wantNoOpen(t, "a page and more", append(b, 0), api.ErrArg)
}

func TestOpenOfAnotherSum(t *testing.T) {
	for _, page := range sizes {
		wantNoOpen(t, "noughts", make([]byte, page), api.ErrSum)
		wantNoOpen(t, "noise", noise(page, 3), api.ErrSum)
		b := closed(t, page, 2, noise(30, 1))
		binary.BigEndian.PutUint32(b[page-4:], seal.Sum(b[:page-4]))
		wantNoOpen(t, "a sum laid the other way", b, api.ErrSum)
	}
	b := laid(64, math.MaxUint32, math.MaxUint16, nil)
	b[60] ^= 1
	wantNoOpen(t, "another sum and numbers that may not be", b, api.ErrSum)
}

func TestOpenOfNumbersThatMayNotBe(t *testing.T) {
	for _, page := range sizes {
		room := uint16(page - 10)
		fill := noise(page-10, 5)
		wantOpen(t, laid(page, api.MaxPages, room, fill), api.MaxPages-1, fill)
		wantOpen(t, laid(page, 0, 0, nil), -1, nil)
		for _, n := range []uint32{api.MaxPages + 1, api.MaxPages + 2, 1 << 16, 1 << 24, 1 << 31, math.MaxUint32 - 1, math.MaxUint32} {
			wantNoOpen(t, "another next", laid(page, n, 0, nil), api.ErrForm)
			wantNoOpen(t, "another next", laid(page, n, room, fill), api.ErrForm)
		}
		for _, n := range []uint16{room + 1, room + 4, room + 10, 1 << 15, math.MaxUint16} {
			wantNoOpen(t, "another count", laid(page, 0, n, fill), api.ErrForm)
			wantNoOpen(t, "another count", laid(page, api.MaxPages, n, fill), api.ErrForm)
			wantNoOpen(t, "two other numbers", laid(page, math.MaxUint32, n, fill), api.ErrForm)
		}
	}
}

// The chapter lets the two numbers alone be wrong: what stands behind the data is not asked.
func TestOpenOfMoreBehindTheData(t *testing.T) {
	wantOpen(t, laid(64, 8, 3, []byte("abcdef")), 7, []byte("abc"))
}

func TestListsAreNotShared(t *testing.T) {
	room := append(make([]byte, 0, 64), "abcdef"...)
	data := room[:3]
	b := closed(t, 64, 5, data)
	if string(room) != "abcdef" {
		t.Errorf("Close changed what was handed in: %q", room)
	}
	data[0] = 'x'
	wantOpen(t, b, 5, []byte("abc"))
	same := bytes.Clone(b)
	_, got, _ := seal.Open(b)
	if got[0] = 'y'; !bytes.Equal(b, same) {
		t.Errorf("what Open answered is the page's own: %v", b)
	}
	_ = append(got, 1, 2, 3)
	if !bytes.Equal(b, same) {
		t.Errorf("what Open answered reaches into the page: %v", b)
	}
	_, got, _ = seal.Open(b)
	if b[6] = 'z'; string(got) != "abc" {
		t.Errorf("what Open answered is not kept: %q", got)
	}
	one, two := closed(t, 64, 5, []byte("abc")), closed(t, 64, 5, []byte("abc"))
	if one[0] = 77; !bytes.Equal(two, same) {
		t.Errorf("two pages share their bytes: %v", two)
	}
}

// The pages go over a disk here, as those do that the program writes.
func TestOpenOfWhatADiskBrings(t *testing.T) {
	d, _ := disk.New(64, 1)
	d.Alloc()
	data := noise(54, 9)
	if e := d.Write(0, closed(t, 64, -1, data)); e != api.OK {
		t.Fatal(e)
	}
	d.Plan([]disk.Fault{{At: 1, Kind: disk.Turn}})
	b, _ := d.Read(0)
	wantNoOpen(t, "what was turned on its way", b, api.ErrSum)
	b, _ = d.Read(0)
	wantOpen(t, b, -1, data)
}
