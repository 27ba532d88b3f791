package sorter_test

import (
	"math/rand"
	"strconv"
	"testing"

	"aqueduct/api"
	"aqueduct/disk"
	"aqueduct/sorter"
	"aqueduct/top"
)

// spoil changes all that hangs on an item, spare room too.
func spoil(x top.Item) {
	for _, b := range [][]byte{x.Key[:cap(x.Key)], x.Data[:cap(x.Data)]} {
		for i := range b {
			b[i] = 0x55
		}
	}
}

// TestWhatIsHandedInIsTheCallers has it changed behind Add.
func TestWhatIsHandedInIsTheCallers(t *testing.T) {
	for _, room := range spilling() {
		p := made(t, 64, room, 100)
		s := sorter.New(p.d, p.l)
		for _, x := range copies(few()) {
			s.Add(x)
			spoil(x)
		}
		s.Sort()
		wantRest(t, "room "+strconv.Itoa(room), s, sorted(few()))
	}
}

// TestOneListForAll has each item written into the one that came ahead of it.
func TestOneListForAll(t *testing.T) {
	for _, room := range spilling() {
		p := made(t, 64, room, 100)
		s := sorter.New(p.d, p.l)
		key, data := make([]byte, 1), make([]byte, 1)
		for i, c := range []byte("gfedcba") {
			key[0], data[0] = c, '0'+byte(i)
			s.Add(top.Item{Key: key, Data: data})
		}
		s.Sort()
		wantRest(t, "room "+strconv.Itoa(room), s, parse("a:6 b:5 c:4 d:3 e:2 f:1 g:0"))
	}
}

// TestRoomIsLeftAlone has room behind the key and the data, and both in one list.
func TestRoomIsLeftAlone(t *testing.T) {
	for _, room := range spilling() {
		p := made(t, 64, room, 100)
		s := sorter.New(p.d, p.l)
		b := []byte("keydataroom")
		s.Add(top.Item{Key: b[:3], Data: b[3:7]})
		s.Add(top.Item{Key: b[:2], Data: b[:0]})
		s.Add(top.Item{Key: b[:1], Data: b[1:2]})
		s.Sort()
		for range 3 {
			x, _, _ := s.Next()
			x.Key, x.Data = append(x.Key, "more"...), append(x.Data, "more"...)
			spoil(x)
		}
		if string(b) != "keydataroom" {
			t.Errorf("it is %q now", b)
		}
	}
}

// TestWhatIsAnsweredIsTheCallers has each item changed behind Next, and the key's room filled ahead of looking at the data.
func TestWhatIsAnsweredIsTheCallers(t *testing.T) {
	for _, room := range spilling() {
		p := made(t, 64, room, 100)
		s := sorter.New(p.d, p.l)
		for _, x := range few() {
			s.Add(x)
		}
		s.Sort()
		for _, want := range sorted(few()) {
			x, _, _ := s.Next()
			for i := range x.Key[:cap(x.Key)] {
				x.Key[:cap(x.Key)][i] = 0x55
			}
			x.Key = append(x.Key, "more than there is room for"...)
			if string(x.Data) != string(want.Data) {
				t.Errorf("room %d: the data are %q now, want %q", room, x.Data, want.Data)
			}
			spoil(x)
		}
		wantRest(t, "room "+strconv.Itoa(room), s, nil)
	}
}

// TestAnsweredItemsStay has all of them kept till the end, while others are sorted.
func TestAnsweredItemsStay(t *testing.T) {
	for _, room := range spilling() {
		p := made(t, 64, room, 200)
		all := some(30, 10, 60, room)
		c := play(p, sorter.New(p.d, p.l), all)
		play(p, sorter.New(p.d, p.l), some(30, 10, 60, 99))
		if !alike(c.items, sorted(all)) {
			t.Errorf("room %d: they are%s now", room, show(c.items))
		}
	}
}

// TestOneItemTwice has one item added again and again; each of them is brought in memory of its own.
func TestOneItemTwice(t *testing.T) {
	for _, room := range spilling() {
		p := made(t, 64, room, 100)
		s := sorter.New(p.d, p.l)
		x := it("both", "both")
		for range 4 {
			s.Add(x)
		}
		s.Sort()
		for range 4 {
			wantNext(t, "both", s, it("both", "both"), true, api.OK)
		}
		if string(x.Key) != "both" || string(x.Data) != "both" {
			t.Errorf("it is%s now", show([]top.Item{x}))
		}
	}
}

// twin is one of several Sorters over one disk and one ledger.
type twin struct {
	s     *sorter.Sorter
	added []top.Item
	rest  []top.Item
	state int // adding, bringing, closed
}

// step does one call, whichever comes by chance.
func (w *twin) step(t *testing.T, r *rand.Rand, x top.Item) {
	t.Helper()
	switch {
	case w.state == 0 && r.Intn(20) > 0:
		wantErr(t, "Add", w.s.Add(x), api.OK)
		w.added = append(w.added, x)
	case w.state == 0:
		wantErr(t, "Sort", w.s.Sort(), api.OK)
		w.state, w.rest = 1, sorted(w.added)
	case w.state == 1 && r.Intn(100) == 0:
		w.s.Close()
		w.state = 2
	case w.state == 1 && len(w.rest) > 0:
		wantNext(t, "twin", w.s, w.rest[0], true, api.OK)
		w.rest = w.rest[1:]
	case w.state == 1:
		wantNext(t, "twin, at the end", w.s, top.Item{}, false, api.OK)
		w.state = 2
	}
}

// TestSortersAreApart has several go on by turns over one disk and one ledger.
func TestSortersAreApart(t *testing.T) {
	r := rand.New(rand.NewSource(7))
	for i := range 100 {
		p := made(t, 64<<r.Intn(4), r.Intn(2000), 2000)
		twins := make([]twin, 2+r.Intn(3))
		for j := range twins {
			twins[j].s = sorter.New(p.d, p.l)
		}
		items := some(1000, 20, 50, i)
		for _, x := range items {
			twins[r.Intn(len(twins))].step(t, r, x)
		}
		for j := range twins {
			twins[j].s.Close()
			wantOver(t, "twin", twins[j].s)
		}
		p.wantClear(t, "twins")
		if most := p.l.Budget() + len(twins)*(8*p.d.Page()+4*(greatest(items)+32)); p.l.Most() > most {
			t.Errorf("%d were held, want %d at most", p.l.Most(), most)
		}
		if t.Failed() {
			t.FailNow()
		}
	}
}

// TestOneBreaksAlone has a fault strike one of two.
func TestOneBreaksAlone(t *testing.T) {
	for at := range 120 {
		p := made(t, 64, 100, 200)
		a, b := sorter.New(p.d, p.l), sorter.New(p.d, p.l)
		for _, x := range few() {
			wantAdd(t, "a", a, x, api.OK)
		}
		p.d.Plan([]disk.Fault{{At: at + 1, Kind: disk.Read}, {At: at + 1, Kind: disk.Write}, {At: at + 1, Kind: disk.Full}})
		play(p, b, few())
		b.Close()
		p.d.Plan(nil)
		wantErr(t, "a's Sort", a.Sort(), api.OK)
		wantRest(t, "a", a, sorted(few()))
		p.wantClear(t, "both")
	}
}
