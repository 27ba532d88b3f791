package seal_test

import (
	"math"
	"testing"

	"aqueduct/api"
	"aqueduct/disk"
	"aqueduct/seal"
)

// turns are masks whose lowest bit is set, so that each begins where it is laid: runs, ends alone, patterns, noise.
func turns() []uint32 {
	l := []uint32{0x82F63B79, 0x05EC76F1, 0x1EDC6F41, 0xAAAAAAAB, 0x55555555, 0xFF0000FF, 0x80000001, 0x01010101}
	for n := 1; n <= 32; n++ {
		l = append(l, math.MaxUint32>>(32-n), 1<<(n-1)|1)
	}
	seed := uint32(7)
	for range 40 {
		seed = seed*1664525 + 1013904223
		l = append(l, seed|1)
	}
	return l
}

// turned hands each turn of the page at that bit to Open.
func turned(t *testing.T, d *disk.Disk, bit int, masks []uint32) {
	t.Helper()
	for _, m := range masks {
		if !d.Turn(0, bit, m) {
			t.Fatalf("Turn(0, %d, %#x): false", bit, m)
		}
		b, _ := d.Look(0)
		if n, data, e := seal.Open(b); n != 0 || len(data) != 0 || e != api.ErrSum {
			t.Errorf("a page of %d, turned from bit %d on by %#x: %d, %v, %v", len(b), bit, m, n, data, e)
		}
		d.Turn(0, bit, m)
	}
}

// pageOf is a disk with that page alone on it.
func pageOf(t *testing.T, b []byte) *disk.Disk {
	t.Helper()
	d, _ := disk.New(len(b), 1)
	d.Alloc()
	if e := d.Write(0, b); e != api.OK {
		t.Fatal(e)
	}
	return d
}

func TestTurnedAnywhereInASmallPage(t *testing.T) {
	masks := turns()
	for i, data := range [][]byte{nil, noise(1, 2), noise(27, 3), noise(54, 4)} {
		d := pageOf(t, closed(t, 64, []int{-1, 0, 77, api.MaxPages - 1}[i], data))
		for bit := range 512 {
			turned(t, d, bit, masks)
		}
		b, _ := d.Look(0)
		wantOpen(t, b, []int{-1, 0, 77, api.MaxPages - 1}[i], data)
	}
}

func TestTurnedAtTheSeamsOfEachPage(t *testing.T) {
	masks := turns()
	for _, page := range sizes {
		data := noise(page/2, uint32(page))
		d := pageOf(t, closed(t, page, page, data))
		end := 8 * page
		for _, from := range []int{0, end/4 - 40, end/2 - 40, end/2 + 48 - 40, end - 32 - 40, end - 40} {
			for bit := max(from, 0); bit < min(from+80, end); bit++ {
				turned(t, d, bit, masks[:8])
			}
		}
		for _, bit := range []int{0, 15, 31, 32, 47, 48, end / 2, end - 64, end - 33, end - 32, end - 31, end - 1} {
			turned(t, d, bit, masks)
		}
	}
}

func TestEachBitOfTheGreatestPage(t *testing.T) {
	b := closed(t, 4096, 1, noise(4086, 6))
	for bit := range 8 * len(b) {
		b[bit/8] ^= 1 << (bit % 8)
		if _, _, e := seal.Open(b); e != api.ErrSum {
			t.Errorf("bit %d turned: %v", bit, e)
		}
		b[bit/8] ^= 1 << (bit % 8)
	}
	wantOpen(t, b, 1, noise(4086, 6))
}

// A page that the two numbers forbid too is told by its sum, the number that was turned is not believed.
func TestTurnedNumbersAreToldByTheSum(t *testing.T) {
	d := pageOf(t, closed(t, 64, 3, noise(20, 1)))
	turned(t, d, 0, []uint32{math.MaxUint32, 1 << 31, 1 << 20})
	turned(t, d, 32, []uint32{0xffff, 1 << 15, 1 << 7})
	turned(t, d, 16, []uint32{math.MaxUint32})
}
