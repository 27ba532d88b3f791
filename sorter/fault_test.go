package sorter_test

import (
	"encoding/binary"
	"math"
	"math/rand"
	"strconv"
	"testing"

	"aqueduct/api"
	"aqueduct/disk"
	"aqueduct/seal"
	"aqueduct/sorter"
	"aqueduct/top"
)

// course is what a Sorter's calls brought, one behind another, till one told an error or the end.
type course struct {
	items []top.Item
	e     api.Errno
	ops   []int // how many operations of the disk were asked for, behind each call
	runs  int
}

// play adds the items, sorts them and has them brought.
func play(p place, s *sorter.Sorter, all []top.Item) course {
	begin := p.d.Ops()
	var c course
	told := func(e api.Errno) bool {
		c.ops = append(c.ops, p.d.Ops()-begin)
		c.e, c.runs = e, s.Runs()
		return e != api.OK
	}
	for _, x := range all {
		if told(s.Add(x)) {
			return c
		}
	}
	if told(s.Sort()) {
		return c
	}
	for {
		x, ok, e := s.Next()
		if told(e) || !ok {
			return c
		}
		c.items = append(c.items, x)
	}
}

// wantBroken has the course be over with an error: what came is the beginning of what was to come, all is given back, and each further call is ErrState.
func wantBroken(t *testing.T, what string, p place, s *sorter.Sorter, c course, all []top.Item) {
	t.Helper()
	want := sorted(all)
	if len(c.items) > len(want) || !alike(c.items, want[:len(c.items)]) {
		t.Errorf("%s: brought%s, which is no beginning of%s", what, show(c.items), show(want))
	}
	p.wantClear(t, what)
	ops := p.d.Ops()
	wantOver(t, what, s)
	wantRuns(t, what, s, c.runs)
	p.wantClear(t, what+", asked again")
	p.wantWithin(t, what, all)
	if p.d.Ops() != ops {
		t.Errorf("%s: it went on with %d operations", what, p.d.Ops()-ops)
	}
}

// callOf is the call in which the operation of that number is asked for.
func callOf(ops []int, at int) int {
	for i, n := range ops {
		if at <= n {
			return i
		}
	}
	return len(ops)
}

// wantFaults has each sort of fault planned at each operation: it is told by the call that asks for that operation, if it is one of its sort.
func wantFaults(t *testing.T, page, room int, all []top.Item) {
	t.Helper()
	what := "page " + strconv.Itoa(page) + ", room " + strconv.Itoa(room) + ", of " + strconv.Itoa(len(all)) + show(all)
	p := made(t, page, room, 2000)
	writes := p.d.Writes()
	whole := play(p, sorter.New(p.d, p.l), all)
	writes = p.d.Writes() - writes
	last := whole.ops[len(whole.ops)-1]
	struck := map[int]int{}
	errs := map[int]api.Errno{disk.Read: api.ErrIO, disk.Write: api.ErrIO, disk.Full: api.ErrFull, disk.Turn: api.ErrSum}
	for at := 1; at <= last; at++ {
		for kind := disk.Read; kind <= disk.Turn; kind++ {
			p := made(t, page, room, 2000)
			p.d.Plan([]disk.Fault{{At: at, Kind: kind}})
			s := sorter.New(p.d, p.l)
			c := play(p, s, all)
			here := what + ", fault " + strconv.Itoa(kind) + " at " + strconv.Itoa(at)
			if c.e == api.OK {
				if !alike(c.items, sorted(all)) {
					t.Errorf("%s: brought%s", here, show(c.items))
				}
				p.wantClear(t, here)
				continue
			}
			struck[kind]++
			wantErr(t, here, c.e, errs[kind])
			if call := callOf(whole.ops, at); len(c.ops) != call+1 {
				t.Errorf("%s: told by call %d, want %d", here, len(c.ops)-1, call)
			}
			wantBroken(t, here, p, s, c, all)
		}
		if t.Failed() {
			t.FailNow()
		}
	}
	// Each page is Alloced once and Freed once, and all other operations are Writes and Reads.
	if a := struck[disk.Full]; struck[disk.Write] != writes || struck[disk.Read] != struck[disk.Turn] || 2*a+writes+struck[disk.Read] != last {
		t.Errorf("%s: of %d operations there struck %v", what, last, struck)
	}
}

func TestFaultsAtEachOperation(t *testing.T) {
	wantFaults(t, 64, 0, nil)
	wantFaults(t, 64, 0, parse("a:1"))
	wantFaults(t, 64, 0, parse("b:1 a:2"))
	for _, room := range []int{0, 70, 150, 200, 300, 400} {
		wantFaults(t, 64, room, few())
		wantFaults(t, 128, room, few())
	}
	for _, room := range []int{0, 500, 1200, 2500} {
		wantFaults(t, 64, room, some(14, 5, 150, room))
		wantFaults(t, 256, room, some(25, 25, 300, room))
	}
}

// TestSeveralFaults has some planned at random: the first that strikes ends it.
func TestSeveralFaults(t *testing.T) {
	r := rand.New(rand.NewSource(5))
	for i := range 2000 {
		all := some(r.Intn(20), 8, 100, i)
		page, room := 64<<r.Intn(3), r.Intn(1000)
		p := made(t, page, room, 1000)
		var l []disk.Fault
		for range 1 + r.Intn(5) {
			l = append(l, disk.Fault{At: 1 + r.Intn(100), Kind: r.Intn(6)})
		}
		p.d.Plan(l)
		s := sorter.New(p.d, p.l)
		c := play(p, s, all)
		switch c.e {
		case api.OK:
			if !alike(c.items, sorted(all)) {
				t.Errorf("%d: brought%s", i, show(c.items))
			}
			p.wantClear(t, "several")
		case api.ErrIO, api.ErrFull, api.ErrSum:
			wantBroken(t, "several "+strconv.Itoa(i), p, s, c, all)
		default:
			t.Errorf("%d: %v", i, c.e)
		}
		if t.Failed() {
			t.FailNow()
		}
	}
}

// TestDisksThatAreFull have room for more pages each time, till all is sorted: from then on it is.
func TestDisksThatAreFull(t *testing.T) {
	for _, room := range []int{0, 200, 600, 1500} {
		all := some(20, 6, 100, room)
		done := false
		for pages := range 200 {
			p := made(t, 64, room, pages)
			s := sorter.New(p.d, p.l)
			c := play(p, s, all)
			what := "room " + strconv.Itoa(room) + ", " + strconv.Itoa(pages) + " pages"
			if c.e == api.OK {
				done = true
				if !alike(c.items, sorted(all)) {
					t.Errorf("%s: brought%s", what, show(c.items))
				}
				p.wantClear(t, what)
				continue
			}
			if done {
				t.Errorf("%s: %v, and with fewer it went", what, c.e)
			}
			wantErr(t, what, c.e, api.ErrFull)
			wantBroken(t, what, p, s, c, all)
		}
		if !done {
			t.Errorf("room %d: it never went", room)
		}
	}
}

// TestGoesOnBehindTheFaults has a new one sort on the same disk, where another broke.
func TestGoesOnBehindTheFaults(t *testing.T) {
	p := made(t, 64, 0, 100)
	for at := range 60 {
		p.d.Plan([]disk.Fault{{At: at, Kind: disk.Write}, {At: at, Kind: disk.Read}, {At: at, Kind: disk.Full}})
		play(p, sorter.New(p.d, p.l), few())
		p.d.Plan(nil)
		s := sorter.New(p.d, p.l)
		for _, x := range few() {
			wantAdd(t, "behind", s, x, api.OK)
		}
		wantErr(t, "Sort", s.Sort(), api.OK)
		wantRest(t, "behind", s, sorted(few()))
		p.wantClear(t, "behind")
	}
}

// TestPagesThatWereTurned has any bits of any page turned behind Sort, and behind each Next.
func TestPagesThatWereTurned(t *testing.T) {
	r := rand.New(rand.NewSource(6))
	all := some(12, 4, 200, 9)
	for _, room := range []int{0, 700, 2000} {
		for calls := range 10 {
			for range 40 {
				p := made(t, 64, room, 1000)
				ahead := p.d.Numbers()
				s := sorter.New(p.d, p.l)
				for _, x := range all {
					wantAdd(t, "turned", s, x, api.OK)
				}
				wantErr(t, "Sort", s.Sort(), api.OK)
				var c course
				for range calls {
					x, _, _ := s.Next()
					c.items = append(c.items, x)
				}
				c.runs = s.Runs()
				mine := p.d.Numbers()
				n := mine[r.Intn(len(mine))]
				for _, m := range ahead {
					if n == m {
						n = mine[len(mine)-1]
					}
				}
				p.d.Turn(n, r.Intn(64*8), 1+uint32(r.Intn(math.MaxUint32-1)))
				for c.e == api.OK {
					x, ok, e := s.Next()
					c.e = e
					if !ok {
						break
					}
					c.items = append(c.items, x)
				}
				if c.e == api.OK {
					if !alike(c.items, sorted(all)) {
						t.Errorf("brought%s", show(c.items))
					}
					p.wantClear(t, "turned")
					continue
				}
				wantErr(t, "turned", c.e, api.ErrSum)
				wantBroken(t, "turned", p, s, c, all)
			}
		}
	}
}

// TestRunsThatAreNone has pages sealed anew with records that no Sorter writes: ErrForm, and never a panic.
func TestRunsThatAreNone(t *testing.T) {
	p := made(t, 64, 0, 100)
	ahead := p.d.Numbers()
	for _, bad := range [][]byte{{}, {0}, {0, 0, 0}, {1, 0, 0, 0}, {255, 255, 255, 0}, {0, 1, 0, 0, 'a'}, {2, 0, 0, 3, 'a'}, {0, 0, 1, 0, 'a', 'b'}} {
		s := sorter.New(p.d, p.l)
		s.Add(it("a", "1"))
		s.Add(it("b", "2"))
		wantRuns(t, "a run", s, 1)
		for _, n := range p.d.Numbers() {
			mine := true
			for _, m := range ahead {
				mine = mine && n != m
			}
			if !mine {
				continue
			}
			b, e := seal.Close(64, -1, append(binary.LittleEndian.AppendUint32(nil, uint32(len(bad))), bad...))
			wantErr(t, "seal", e, api.OK)
			wantErr(t, "Write", p.d.Write(n, b), api.OK)
		}
		wantErr(t, "Sort of a record that is none", s.Sort(), api.ErrForm)
		wantBroken(t, "no record", p, s, course{e: api.ErrForm, runs: 2}, parse("a:1 b:2"))
	}
}
