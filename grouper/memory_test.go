package grouper_test

import (
	"math/rand"
	"strconv"
	"testing"

	"aqueduct/api"
	"aqueduct/disk"
	"aqueduct/grouper"
	"aqueduct/top"
)

// spoil changes all that hangs on an item, spare room too.
func spoil(x top.Item) {
	for _, b := range [][]byte{x.Key[:cap(x.Key)], x.Data[:cap(x.Data)]} {
		for i := range b {
			b[i] = 0x55
		}
	}
}

// TestWhatIsHandedInIsTheCallers has it changed behind Add.
func TestWhatIsHandedInIsTheCallers(t *testing.T) {
	for _, room := range spilling() {
		p := made(t, 64, room, 100)
		g := grouper.New(p.d, p.l)
		for _, x := range few() {
			x = copyOf(x)
			g.Add(x)
			spoil(x)
		}
		g.End()
		wantRest(t, "room "+strconv.Itoa(room), g, grouped(few()))
	}
}

// TestOneListForAll has each item written into the one that came ahead of it.
func TestOneListForAll(t *testing.T) {
	for _, room := range spilling() {
		p := made(t, 64, room, 100)
		g := grouper.New(p.d, p.l)
		key, data := make([]byte, 1), make([]byte, 1)
		for i, c := range []byte("gabgbaa") {
			key[0], data[0] = c, '0'+byte(i)
			g.Add(top.Item{Key: key, Data: data})
		}
		g.End()
		wantRest(t, "room "+strconv.Itoa(room), g, members("0/g:0 0/g:3 1/a:1 1/a:5 1/a:6 2/b:2 2/b:4"))
	}
}

// TestRoomIsLeftAlone has room behind the key and the data, and both in one list.
func TestRoomIsLeftAlone(t *testing.T) {
	for _, room := range spilling() {
		p := made(t, 64, room, 100)
		g := grouper.New(p.d, p.l)
		b := []byte("keydataroom")
		g.Add(top.Item{Key: b[:3], Data: b[3:7]})
		g.Add(top.Item{Key: b[:2], Data: b[:0]})
		g.Add(top.Item{Key: b[:1], Data: b[1:2]})
		g.End()
		for range 3 {
			x, _, _, _ := g.Next()
			x.Key, x.Data = append(x.Key, "more"...), append(x.Data, "more"...)
			spoil(x)
		}
		if string(b) != "keydataroom" {
			t.Errorf("it is %q now", b)
		}
	}
}

// TestWhatIsAnsweredIsTheCallers has each item changed behind Next, and the key's room filled ahead of looking at the data.
func TestWhatIsAnsweredIsTheCallers(t *testing.T) {
	for _, room := range spilling() {
		p := made(t, 64, room, 100)
		g := grouper.New(p.d, p.l)
		wantAdds(t, "few", g, few())
		g.End()
		for _, want := range grouped(few()) {
			x, n, _, _ := g.Next()
			for i := range x.Key[:cap(x.Key)] {
				x.Key[:cap(x.Key)][i] = 0x55
			}
			x.Key = append(x.Key, "more than there is room for"...)
			if string(x.Data) != string(want.item.Data) || n != want.group {
				t.Errorf("room %d: it is %q of %d now, want%s", room, x.Data, n, show([]member{want}))
			}
			spoil(x)
		}
		wantRest(t, "room "+strconv.Itoa(room), g, nil)
	}
}

// TestAnsweredItemsStay has all of them kept till the end, while others are grouped.
func TestAnsweredItemsStay(t *testing.T) {
	for _, room := range spilling() {
		p := made(t, 64, room, 200)
		all := some(30, 10, 60, room)
		c := play(p, grouper.New(p.d, p.l), all)
		play(p, grouper.New(p.d, p.l), some(30, 10, 60, 99))
		if !alike(c.items, grouped(all)) {
			t.Errorf("room %d: they are%s now", room, show(c.items))
		}
	}
}

// TestOneItemTwice has one item added again and again; each of them is brought in memory of its own.
func TestOneItemTwice(t *testing.T) {
	for _, room := range spilling() {
		p := made(t, 64, room, 100)
		g := grouper.New(p.d, p.l)
		x := it("both", "both")
		for range 4 {
			g.Add(x)
		}
		g.End()
		for range 4 {
			y, n, ok, e := g.Next()
			if !same(y, it("both", "both")) || n != 0 || !ok || e != api.OK {
				t.Errorf("room %d: %s of %d, %v, %v", room, showItem(y), n, ok, e)
			}
			spoil(y)
		}
		if !same(x, it("both", "both")) {
			t.Errorf("it is %s now", showItem(x))
		}
	}
}

// twin is one of several Groupers over one disk and one ledger.
type twin struct {
	g       *grouper.Grouper
	added   []top.Item
	rest    []member
	state   int // adding, bringing, closed
	spilled bool
}

// step does one call, whichever comes by chance.
func (w *twin) step(t *testing.T, p place, r *rand.Rand, x top.Item) {
	t.Helper()
	writes := p.d.Writes()
	switch {
	case w.state == 0 && r.Intn(20) > 0:
		wantErr(t, "Add", w.g.Add(x), api.OK)
		w.added = append(w.added, x)
	case w.state == 0:
		wantErr(t, "End", w.g.End(), api.OK)
		w.state, w.rest = 1, grouped(w.added)
	case w.state == 1 && r.Intn(100) == 0:
		w.g.Close()
		w.state = 2
	case w.state == 1 && len(w.rest) > 0:
		wantNext(t, "twin", w.g, w.rest[0])
		w.rest = w.rest[1:]
	case w.state == 1:
		wantNone(t, "twin, at the end", w.g, api.OK)
		w.state = 2
	}
	w.spilled = w.spilled || p.d.Writes() > writes
	wantSpilled(t, "twin", w.g, w.spilled)
}

// TestGroupersAreApart has several go on by turns over one disk and one ledger.
func TestGroupersAreApart(t *testing.T) {
	r := rand.New(rand.NewSource(7))
	for i := range 150 {
		p := made(t, 64<<r.Intn(4), r.Intn(4000), 3000)
		twins := make([]twin, 2+r.Intn(3))
		for j := range twins {
			twins[j].g = grouper.New(p.d, p.l)
		}
		items := some(1000, 20, 50, i)
		for _, x := range items {
			twins[r.Intn(len(twins))].step(t, p, r, x)
		}
		for j := range twins {
			twins[j].g.Close()
			wantOver(t, "twin", twins[j].g)
		}
		p.wantClear(t, "twins")
		if most := p.l.Budget() + len(twins)*(8*p.d.Page()+8*greatest(items)); p.l.Most() > most {
			t.Errorf("%d were held, want %d at most", p.l.Most(), most)
		}
		if t.Failed() {
			t.FailNow()
		}
	}
}

// TestOneBreaksAlone has a fault strike one of two.
func TestOneBreaksAlone(t *testing.T) {
	for at := range 200 {
		p := made(t, 64, 150, 200)
		a, b := grouper.New(p.d, p.l), grouper.New(p.d, p.l)
		wantAdds(t, "a", a, few())
		p.d.Plan([]disk.Fault{{At: at + 1, Kind: disk.Read}, {At: at + 1, Kind: disk.Write}, {At: at + 1, Kind: disk.Full}})
		play(p, b, few())
		b.Close()
		p.d.Plan(nil)
		wantErr(t, "a's End", a.End(), api.OK)
		wantRest(t, "a", a, grouped(few()))
		p.wantClear(t, "both")
	}
}
