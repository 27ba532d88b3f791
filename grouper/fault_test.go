package grouper_test

import (
	"encoding/binary"
	"math"
	"math/rand"
	"slices"
	"strconv"
	"testing"

	"aqueduct/api"
	"aqueduct/disk"
	"aqueduct/grouper"
	"aqueduct/seal"
	"aqueduct/top"
)

// course is what a Grouper's calls brought, one behind another, till one told an error or the end.
type course struct {
	items   []member
	e       api.Errno
	ops     []int // how many operations of the disk were asked for, behind each call
	spilled bool
}

// play adds the items, ends that and has them brought.
func play(p place, g *grouper.Grouper, all []top.Item) course {
	begin := p.d.Ops()
	var c course
	told := func(e api.Errno) bool {
		c.ops = append(c.ops, p.d.Ops()-begin)
		c.e, c.spilled = e, g.Spilled()
		return e != api.OK
	}
	for _, x := range all {
		if told(g.Add(x)) {
			return c
		}
	}
	if told(g.End()) {
		return c
	}
	for {
		x, n, ok, e := g.Next()
		if !ok && (x.Key != nil || x.Data != nil || n != 0) {
			panic("something is brought beside false")
		}
		if told(e) || !ok {
			return c
		}
		c.items = append(c.items, member{x, n})
	}
}

// wantBroken has the course be over with an error: what came is the beginning of what was to come, all is given back, and each further call is ErrState.
func wantBroken(t *testing.T, what string, p place, g *grouper.Grouper, c course, all []top.Item) {
	t.Helper()
	want := grouped(all)
	if len(c.items) > len(want) || !alike(c.items, want[:len(c.items)]) {
		t.Errorf("%s: brought%s, which is no beginning of%s", what, show(c.items), show(want))
	}
	p.wantClear(t, what)
	ops := p.d.Ops()
	wantOver(t, what, g)
	wantSpilled(t, what, g, c.spilled)
	p.wantClear(t, what+", asked again")
	p.wantWithin(t, what, all)
	if p.d.Ops() != ops {
		t.Errorf("%s: it went on with %d operations", what, p.d.Ops()-ops)
	}
}

// wantWhole has the course have gone through.
func wantWhole(t *testing.T, what string, p place, c course, all []top.Item) {
	t.Helper()
	if !alike(c.items, grouped(all)) {
		t.Errorf("%s: brought%s", what, show(c.items))
	}
	p.wantClear(t, what)
	p.wantWithin(t, what, all)
}

// callOf is the call in which the operation of that number is asked for.
func callOf(ops []int, at int) int {
	n, _ := slices.BinarySearch(ops, at)
	return n
}

// wantFaults has each sort of fault planned at each operation: it is told by the call that asks for that operation, if it is one of its sort.
func wantFaults(t *testing.T, page, room int, all []top.Item) {
	t.Helper()
	what := "page " + strconv.Itoa(page) + ", room " + strconv.Itoa(room) + ", of " + strconv.Itoa(len(all)) + showAll(all)
	p := made(t, page, room, 2000)
	begin := p.d.Writes()
	whole := play(p, grouper.New(p.d, p.l), all)
	writes := p.d.Writes() - begin
	last := whole.ops[len(whole.ops)-1]
	struck := map[int]int{}
	errs := map[int]api.Errno{disk.Read: api.ErrIO, disk.Write: api.ErrIO, disk.Full: api.ErrFull, disk.Turn: api.ErrSum}
	for at := 1; at <= last; at++ {
		for kind := disk.Read; kind <= disk.Turn; kind++ {
			p := made(t, page, room, 2000)
			p.d.Plan([]disk.Fault{{At: at, Kind: kind}})
			g := grouper.New(p.d, p.l)
			c := play(p, g, all)
			here := what + ", fault " + strconv.Itoa(kind) + " at " + strconv.Itoa(at)
			wantSpilled(t, here, g, p.d.Writes() > begin)
			if c.e == api.OK {
				wantWhole(t, here, p, c, all)
				continue
			}
			struck[kind]++
			wantErr(t, here, c.e, errs[kind])
			if call := callOf(whole.ops, at); len(c.ops) != call+1 {
				t.Errorf("%s: told by call %d, want %d", here, len(c.ops)-1, call)
			}
			wantBroken(t, here, p, g, c, all)
		}
		if t.Failed() {
			t.FailNow()
		}
	}
	// Each page is Alloced once and Freed once, and all other operations are Writes and Reads.
	if a := struck[disk.Full]; struck[disk.Write] != writes || struck[disk.Read] != struck[disk.Turn] || 2*a+writes+struck[disk.Read] != last {
		t.Errorf("%s: of %d operations there struck %v", what, last, struck)
	}
}

func TestFaultsAtEachOperation(t *testing.T) {
	wantFaults(t, 64, 0, nil)
	wantFaults(t, 64, 0, parse("a:1"))
	wantFaults(t, 64, 0, parse("b:1 a:2"))
	wantFaults(t, 64, 0, parse("b:1 a:2 b:3"))
	for _, room := range []int{0, 70, 150, 200, 300, 500} {
		wantFaults(t, 64, room, few())
		wantFaults(t, 128, room, few())
	}
	for _, room := range []int{0, 500, 1200, 2500} {
		wantFaults(t, 64, room, some(10, 4, 100, room))
		wantFaults(t, 256, room, some(16, 16, 300, room))
		wantFaults(t, 256, room, some(16, 1, 100, room))
	}
}

// TestSeveralFaults has some planned at random: the first that strikes ends it.
func TestSeveralFaults(t *testing.T) {
	r := rand.New(rand.NewSource(5))
	for i := range 2000 {
		all := some(r.Intn(20), 8, 100, i)
		page, room := 64<<r.Intn(3), r.Intn(1500)
		p := made(t, page, room, 1000)
		var l []disk.Fault
		for range 1 + r.Intn(5) {
			l = append(l, disk.Fault{At: 1 + r.Intn(300), Kind: r.Intn(6)})
		}
		p.d.Plan(l)
		g := grouper.New(p.d, p.l)
		c := play(p, g, all)
		what := "several " + strconv.Itoa(i)
		switch c.e {
		case api.OK:
			wantWhole(t, what, p, c, all)
		case api.ErrIO, api.ErrFull, api.ErrSum:
			wantBroken(t, what, p, g, c, all)
		default:
			t.Errorf("%d: %v", i, c.e)
		}
		if t.Failed() {
			t.FailNow()
		}
	}
}

// TestDisksThatAreFull have room for more pages each time, till all is grouped: from then on it is.
func TestDisksThatAreFull(t *testing.T) {
	for _, room := range []int{0, 200, 600, 1500} {
		all := some(20, 6, 100, room)
		done := false
		for pages := range 300 {
			p := made(t, 64, room, pages)
			g := grouper.New(p.d, p.l)
			c := play(p, g, all)
			what := "room " + strconv.Itoa(room) + ", " + strconv.Itoa(pages) + " pages"
			if c.e == api.OK {
				done = true
				wantWhole(t, what, p, c, all)
				continue
			}
			if done {
				t.Errorf("%s: %v, and with fewer it went", what, c.e)
			}
			wantErr(t, what, c.e, api.ErrFull)
			wantBroken(t, what, p, g, c, all)
		}
		if !done {
			t.Errorf("room %d: it never went", room)
		}
	}
}

// TestGoesOnBehindTheFaults has a new one group on the same disk, where another broke.
func TestGoesOnBehindTheFaults(t *testing.T) {
	p := made(t, 64, 0, 100)
	for at := range 200 {
		p.d.Plan([]disk.Fault{{At: at, Kind: disk.Write}, {At: at, Kind: disk.Read}, {At: at, Kind: disk.Full}})
		play(p, grouper.New(p.d, p.l), few())
		p.d.Plan(nil)
		c := play(p, grouper.New(p.d, p.l), few())
		wantErr(t, "behind", c.e, api.OK)
		wantWhole(t, "behind", p, c, few())
	}
}

// mine are the numbers of the pages that there are now and that were not ahead.
func (p place) mine(ahead []int) []int {
	var l []int
	for _, n := range p.d.Numbers() {
		if !slices.Contains(ahead, n) {
			l = append(l, n)
		}
	}
	return l
}

// wantTurned goes through so many calls, has bits of any of its pages turned there, and goes on.
func wantTurned(t *testing.T, r *rand.Rand, room, calls int, all []top.Item) {
	t.Helper()
	p := made(t, 64, room, 1000)
	ahead := p.d.Numbers()
	g := grouper.New(p.d, p.l)
	var c course
	for i := 0; ; i++ {
		if own := p.mine(ahead); i == calls && len(own) > 0 {
			p.d.Turn(own[r.Intn(len(own))], r.Intn(64*8), 1+uint32(r.Intn(math.MaxUint32-1)))
		}
		var x member
		ok := true
		switch {
		case i < len(all):
			c.e = g.Add(all[i])
		case i == len(all):
			c.e = g.End()
		default:
			x.item, x.group, ok, c.e = g.Next()
		}
		c.spilled = g.Spilled()
		if c.e != api.OK || !ok {
			break
		}
		if i > len(all) {
			c.items = append(c.items, x)
		}
	}
	what := "room " + strconv.Itoa(room) + ", turned ahead of call " + strconv.Itoa(calls)
	if c.e == api.OK {
		wantWhole(t, what, p, c, all)
		return
	}
	wantErr(t, what, c.e, api.ErrSum)
	wantBroken(t, what, p, g, c, all)
}

// TestPagesThatWereTurned has any bits of any page turned ahead of each call.
func TestPagesThatWereTurned(t *testing.T) {
	r := rand.New(rand.NewSource(6))
	all := some(12, 4, 200, 9)
	for _, room := range []int{0, 700, 2000} {
		for calls := range 2*len(all) + 2 {
			for range 30 {
				wantTurned(t, r, room, calls, all)
			}
		}
	}
}

// forge has each of those pages hold that record in place of its own.
func (p place) forge(t *testing.T, pages []int, record string) {
	t.Helper()
	for _, n := range pages {
		b, _ := p.d.Look(n)
		next, _, e := seal.Open(b)
		wantErr(t, "Open", e, api.OK)
		b, e = seal.Close(p.d.Page(), next, append(binary.LittleEndian.AppendUint32(nil, uint32(len(record))), record...))
		wantErr(t, "Close", e, api.OK)
		wantErr(t, "Write", p.d.Write(n, b), api.OK)
	}
}

// parted are items whose records in the last sort fill two pages of 64 bytes each, so that each begins on a page of its own.
func parted() []top.Item {
	const own = 4 + 4 + 8 + 4 + 1 // what stands ahead of the data: the tape's length, the sorter's head, the stamp, the signs and the key's length, the key
	var all []top.Item
	for i := range 6 {
		all = append(all, top.Item{Key: []byte{'a' + byte(i)}, Data: noise(2*seal.Room(64)-own, i)})
	}
	return all
}

// TestRecordsThatAreNone has pages sealed anew with records that no Grouper writes: ErrForm, and never a panic.
func TestRecordsThatAreNone(t *testing.T) {
	const head = "\x01\x00\x00\x00" + "a" // a sorter's, and the key
	for _, bad := range []string{"", "\x01", head, head + "1234567", head + "12345678", "\xff\x00\x00\x00" + "a"} {
		p := made(t, 64, 0, 100)
		ahead := p.d.Numbers()
		g := grouper.New(p.d, p.l)
		wantAdds(t, "ahead of End", g, parted())
		p.forge(t, p.mine(ahead), bad)
		c := course{spilled: true, e: g.End()}
		wantErr(t, "End of "+strconv.QuoteToASCII(bad), c.e, api.ErrForm)
		wantBroken(t, "no record", p, g, c, parted())
	}
}

// TestRecordsThatAreNoneBehindEnd is the same for the pages that Next reads.
func TestRecordsThatAreNoneBehindEnd(t *testing.T) {
	const head = "\x08\x00\x00\x00" + "\x00\x00\x00\x00\x00\x00\x00\x00" // a sorter's, and the stamp
	for _, bad := range []string{"", "\x08\x00\x00\x00", head, head + "\x04\x00\x00", head + "\x04\x01\x00\x00", head + "\x04\x00\x00\x01key", head + "\x07\xff\xff\xff"} {
		p := made(t, 64, 0, 100)
		ahead := p.d.Numbers()
		g := grouper.New(p.d, p.l)
		wantAdds(t, "behind End", g, parted())
		wantErr(t, "End", g.End(), api.OK)
		p.forge(t, p.mine(ahead), bad)
		c := course{spilled: true}
		for c.e == api.OK && !t.Failed() {
			x, n, ok, e := g.Next()
			if c.e = e; ok {
				c.items = append(c.items, member{x, n})
			}
			if len(c.items) > 2 {
				t.Fatalf("%q: brought%s", bad, show(c.items))
			}
		}
		wantErr(t, "Next of "+strconv.QuoteToASCII(bad), c.e, api.ErrForm)
		wantBroken(t, "no record", p, g, c, parted())
	}
}
