package disk_test

import (
	"math"
	"testing"

	"aqueduct/api"
	"aqueduct/disk"
)

func TestFaultsStrikeTheirOperation(t *testing.T) {
	d := made(t, 64, 3, 1)
	wantErr(t, "Write", d.Write(0, filled(64, 2)), api.OK)
	d.Plan([]disk.Fault{{At: 7, Kind: disk.Turn}, {At: 1, Kind: disk.Read}, {At: 3, Kind: disk.Write}, {At: 5, Kind: disk.Full}})
	wantRead(t, d, 0, nil, api.ErrIO)
	wantRead(t, d, 0, filled(64, 2), api.OK)
	wantErr(t, "Write 3", d.Write(0, filled(64, 9)), api.ErrIO)
	wantLook(t, d, 0, filled(64, 2))
	wantErr(t, "Write 4", d.Write(0, filled(64, 4)), api.OK)
	wantAlloc(t, d, 0, api.ErrFull)
	wantNumbers(t, d, 0)
	wantAlloc(t, d, 1, api.OK)
	turned := filled(64, 4)
	turned[0] = 5
	wantRead(t, d, 0, turned, api.OK)
	wantLook(t, d, 0, filled(64, 4))
	wantRead(t, d, 0, filled(64, 4), api.OK)
	wantInt(t, "Ops", d.Ops(), 10)
	wantInt(t, "Writes", d.Writes(), 2)
}

func TestFaultsComeAheadOfOtherErrors(t *testing.T) {
	d := made(t, 64, 1, 1)
	d.Plan([]disk.Fault{{1, disk.Read}, {2, disk.Write}, {3, disk.Write}, {4, disk.Full}, {5, disk.Turn}})
	wantRead(t, d, 7, nil, api.ErrIO)
	wantErr(t, "Write of a page that is not there", d.Write(7, filled(64, 0)), api.ErrIO)
	wantErr(t, "Write of another length", d.Write(0, nil), api.ErrIO)
	wantAlloc(t, d, 0, api.ErrFull)
	wantRead(t, d, 7, nil, api.ErrNone)
}

func TestFaultsAtAnotherSort(t *testing.T) {
	kinds := []int{disk.Read, disk.Write, disk.Full, disk.Turn}
	allBut := func(left ...int) []disk.Fault {
		var l []disk.Fault
		for _, k := range kinds {
			hit := false
			for _, x := range left {
				hit = hit || x == k
			}
			if !hit {
				l = append(l, disk.Fault{At: 1, Kind: k})
			}
		}
		return l
	}
	d := made(t, 64, 3, 1)
	d.Plan(allBut(disk.Full))
	wantAlloc(t, d, 1, api.OK)
	d.Plan(allBut(disk.Write))
	wantErr(t, "Write", d.Write(0, filled(64, 8)), api.OK)
	d.Plan(allBut(disk.Read, disk.Turn))
	wantRead(t, d, 0, filled(64, 8), api.OK)
	d.Plan(allBut())
	wantErr(t, "Free", d.Free(0), api.OK)
	wantNumbers(t, d, 1)
}

func TestPassedNumberDoesNotComeAgain(t *testing.T) {
	d := made(t, 64, 3, 1)
	d.Plan([]disk.Fault{{1, disk.Full}, {2, disk.Read}})
	wantRead(t, d, 0, filled(64, 0), api.OK)
	wantAlloc(t, d, 1, api.OK)
	wantAlloc(t, d, 2, api.OK)
	wantRead(t, d, 0, filled(64, 0), api.OK)
}

func TestSeveralFaultsAtOneNumber(t *testing.T) {
	d := made(t, 64, 3, 1)
	all := []disk.Fault{{1, disk.Turn}, {1, disk.Full}, {1, disk.Write}, {1, disk.Read}, {1, disk.Read}}
	d.Plan(all)
	wantRead(t, d, 0, nil, api.ErrIO)
	d.Plan(all)
	wantErr(t, "Write", d.Write(0, filled(64, 1)), api.ErrIO)
	d.Plan(all)
	wantAlloc(t, d, 0, api.ErrFull)
	d.Plan([]disk.Fault{{1, disk.Read}, {1, disk.Turn}})
	wantRead(t, d, 0, nil, api.ErrIO)
	turned := filled(64, 0)
	turned[0] = 1
	d.Plan([]disk.Fault{{1, disk.Full}, {1, disk.Turn}, {1, disk.Write}})
	wantRead(t, d, 0, turned, api.OK)
	// Each turns: a bit that is turned twice stands as it was.
	d.Plan([]disk.Fault{{1, disk.Turn}, {1, disk.Turn}})
	wantRead(t, d, 0, filled(64, 0), api.OK)
	d.Plan([]disk.Fault{{1, disk.Turn}, {1, disk.Turn}, {1, disk.Turn}})
	wantRead(t, d, 0, turned, api.OK)
}

func TestPlanCountsAllOperations(t *testing.T) {
	d := made(t, 64, 2, 1)
	d.Plan([]disk.Fault{{7, disk.Read}})
	d.Free(9)
	d.Write(0, nil)
	d.Alloc()
	d.Alloc()
	d.Read(5)
	d.Look(0)
	d.Turn(0, 0, 0)
	d.Free(1)
	wantRead(t, d, 0, nil, api.ErrIO)
	wantRead(t, d, 0, filled(64, 0), api.OK)
}

func TestPlanTakesThePlaceOfAnother(t *testing.T) {
	d := made(t, 64, 2, 1)
	d.Plan([]disk.Fault{{2, disk.Read}, {3, disk.Read}})
	wantRead(t, d, 0, filled(64, 0), api.OK)
	d.Plan([]disk.Fault{{3, disk.Write}})
	wantRead(t, d, 0, filled(64, 0), api.OK)
	wantRead(t, d, 0, filled(64, 0), api.OK)
	wantErr(t, "Write", d.Write(0, filled(64, 1)), api.ErrIO)
	d.Plan([]disk.Fault{{1, disk.Read}})
	d.Plan(nil)
	wantRead(t, d, 0, filled(64, 0), api.OK)
	wantInt(t, "Ops", d.Ops(), 6)
}

func TestFaultsThatNeverStrike(t *testing.T) {
	d := made(t, 64, 2, 1)
	var l []disk.Fault
	for _, at := range []int{math.MinInt, -1, 0, 4, math.MaxInt} {
		for kind := disk.Read; kind <= disk.Turn; kind++ {
			l = append(l, disk.Fault{At: at, Kind: kind})
		}
	}
	for _, kind := range []int{math.MinInt, -1, 0, 5, math.MaxInt} {
		l = append(l, disk.Fault{At: 1, Kind: kind}, disk.Fault{At: 2, Kind: kind}, disk.Fault{At: 3, Kind: kind})
	}
	d.Plan(l)
	wantRead(t, d, 0, filled(64, 0), api.OK)
	wantAlloc(t, d, 1, api.OK)
	wantErr(t, "Write", d.Write(1, filled(64, 1)), api.OK)
}

func TestPlanKeepsNoneOfTheList(t *testing.T) {
	d := made(t, 64, 2, 1)
	l := append(make([]disk.Fault, 0, 3), disk.Fault{At: 2, Kind: disk.Read}, disk.Fault{At: 1, Kind: disk.Write})
	d.Plan(l)
	if l[0] != (disk.Fault{At: 2, Kind: disk.Read}) || l[1] != (disk.Fault{At: 1, Kind: disk.Write}) || l[:3][2] != (disk.Fault{}) {
		t.Errorf("Plan changed what was handed in: %v", l[:3])
	}
	l[0], l[1] = disk.Fault{At: 1, Kind: disk.Read}, disk.Fault{At: 2, Kind: disk.Turn}
	wantRead(t, d, 0, filled(64, 0), api.OK)
	wantRead(t, d, 0, nil, api.ErrIO)
}

func TestTurnBits(t *testing.T) {
	for _, c := range []struct {
		bit  int
		mask uint32
		at   int
		want []byte
	}{
		{0, 0, 0, []byte{0, 0}},
		{0, 1, 0, []byte{1, 0}},
		{7, 1, 0, []byte{128, 0}},
		{8, 1, 0, []byte{0, 1}},
		{4, 0x113, 0, []byte{0x30, 0x11, 0}},
		{0, math.MaxUint32, 0, []byte{255, 255, 255, 255, 0}},
		{3, 0x80000001, 0, []byte{8, 0, 0, 0, 4}},
		{480, math.MaxUint32, 60, []byte{255, 255, 255, 255}},
		{481, math.MaxUint32, 60, []byte{254, 255, 255, 255}},
		{504, 0xfffffffe, 63, []byte{0xfe}},
		{511, 3, 63, []byte{128}},
		{511, 0xfffffffe, 63, []byte{0}},
	} {
		d := made(t, 64, 2, 2)
		if !d.Turn(0, c.bit, c.mask) {
			t.Errorf("Turn(0, %d, %#x): false", c.bit, c.mask)
		}
		want := filled(64, 0)
		copy(want[c.at:], c.want)
		wantLook(t, d, 0, want)
		wantRead(t, d, 0, want, api.OK)
		wantLook(t, d, 1, filled(64, 0))
		d.Turn(0, c.bit, c.mask)
		wantLook(t, d, 0, filled(64, 0))
	}
}

func TestTurnBeyondThePage(t *testing.T) {
	for _, page := range []int{64, 4096} {
		d := made(t, page, 1, 1)
		for _, bit := range []int{math.MinInt, -1, -32, 8 * page, 8*page + 1, math.MaxInt - 31, math.MaxInt} {
			if d.Turn(0, bit, math.MaxUint32) {
				t.Errorf("Turn(0, %d) of a page of %d: true", bit, page)
			}
		}
		wantLook(t, d, 0, filled(page, 0))
		if !d.Turn(0, 8*page-1, 1) {
			t.Error("the last bit: false")
		}
	}
}

// TestAsTheModel holds a disk against a list of pages that is gone through from its start each time.
func TestAsTheModel(t *testing.T) {
	const most = 70
	d := made(t, 64, most, 0)
	var pages [most][]byte
	seed := uint32(1)
	next := func(n int) int {
		seed = seed*1664525 + 1013904223
		return int(seed>>8) % n
	}
	for range 20000 {
		n := next(most)
		there := pages[n] != nil
		noneOr := func() api.Errno {
			if there {
				return api.OK
			}
			return api.ErrNone
		}
		switch next(5) {
		case 0, 1:
			want, e := 0, api.ErrFull
			for i := range pages {
				if pages[i] == nil {
					want, e, pages[i] = i, api.OK, filled(64, 0)
					break
				}
			}
			wantAlloc(t, d, want, e)
		case 2:
			wantErr(t, "Free", d.Free(n), noneOr())
			pages[n] = nil
		case 3:
			b := filled(64, byte(next(256)))
			wantErr(t, "Write", d.Write(n, b), noneOr())
			if there {
				pages[n] = b
			}
		case 4:
			wantRead(t, d, n, pages[n], noneOr())
		}
	}
	var l []int
	for i, p := range pages {
		if p != nil {
			l = append(l, i)
		}
	}
	wantNumbers(t, d, l...)
	wantInt(t, "Ops", d.Ops(), 20000)
}
