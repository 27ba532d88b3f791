package grouper_test

import (
	"strconv"
	"testing"

	"aqueduct/api"
	"aqueduct/disk"
	"aqueduct/grouper"
	"aqueduct/ledger"
	"aqueduct/top"
)

// spilling are rooms over which the few items of these tests make no run, or two, or many.
func spilling() []int { return []int{0, 100, 130, 200, 300, 10000} }

// few are items of some groups whose items come by turns.
func few() []top.Item { return parse("f:one e:two f:three :four a:five e:six f:seven :eight a:nine") }

// trace is all of a place that a call that is refused leaves as it is.
type trace struct {
	held, most, ops int
	spilled         bool
}

func (p place) trace(g *grouper.Grouper) trace {
	return trace{p.l.Held(), p.l.Most(), p.d.Ops(), g.Spilled()}
}

// wantUnchanged has nothing have happened since.
func (p place) wantUnchanged(t *testing.T, what string, g *grouper.Grouper, was trace) {
	t.Helper()
	if now := p.trace(g); now != was {
		t.Errorf("%s: what is refused changed it: %v, want %v", what, now, was)
	}
}

// TestNextAheadOfEnd is refused, and what comes then is as ever.
func TestNextAheadOfEnd(t *testing.T) {
	for _, room := range spilling() {
		p := made(t, 64, room, 100)
		g := grouper.New(p.d, p.l)
		wantNone(t, "nothing", g, api.ErrState)
		for _, x := range few() {
			wantAdd(t, "room "+strconv.Itoa(room), g, x, api.OK)
			was := p.trace(g)
			wantNone(t, "ahead", g, api.ErrState)
			p.wantUnchanged(t, "ahead", g, was)
		}
		wantErr(t, "End", g.End(), api.OK)
		wantRest(t, "ahead", g, grouped(few()))
		p.wantClear(t, "ahead")
	}
}

// TestAddAndEndBehindEnd are refused at each place, and what comes then is as ever.
func TestAddAndEndBehindEnd(t *testing.T) {
	for _, room := range spilling() {
		p := made(t, 64, room, 100)
		g := grouper.New(p.d, p.l)
		wantAdds(t, "few", g, few())
		wantErr(t, "End", g.End(), api.OK)
		wantRefused := func() {
			t.Helper()
			was := p.trace(g)
			wantAdd(t, "behind", g, it("", "early"), api.ErrState)
			wantErr(t, "Add of one too long", g.Add(tooLong), api.ErrState)
			wantErr(t, "End twice", g.End(), api.ErrState)
			p.wantUnchanged(t, "behind", g, was)
		}
		wantRefused()
		for _, x := range grouped(few()) {
			wantNext(t, "behind", g, x)
			wantRefused()
		}
		for range 3 {
			wantNone(t, "behind the last", g, api.OK)
			wantRefused()
			p.wantClear(t, "behind the last")
		}
	}
}

// TestEndOfNothing has no item, and is refused a second time.
func TestEndOfNothing(t *testing.T) {
	p := made(t, 64, 0, 0)
	g := grouper.New(p.d, p.l)
	ops := p.d.Ops()
	wantErr(t, "End", g.End(), api.OK)
	wantErr(t, "End twice", g.End(), api.ErrState)
	wantAdd(t, "behind End", g, it("a", "b"), api.ErrState)
	wantRest(t, "nothing", g, nil)
	wantSpilled(t, "nothing", g, false)
	if p.d.Ops() != ops {
		t.Errorf("%d operations", p.d.Ops()-ops)
	}
	p.wantClear(t, "nothing")
}

// TestCloseAtAnyTime closes behind each of the calls that there are.
func TestCloseAtAnyTime(t *testing.T) {
	all := few()
	for _, page := range []int{64, 256} {
		for _, room := range spilling() {
			for calls := range 2*len(all) + 4 {
				what := "room " + strconv.Itoa(room) + ", closed behind " + strconv.Itoa(calls)
				p := made(t, page, room, 100)
				g := grouper.New(p.d, p.l)
				for i := range calls {
					switch {
					case i < len(all):
						wantErr(t, what, g.Add(all[i]), api.OK)
					case i == len(all):
						wantErr(t, what, g.End(), api.OK)
					default:
						g.Next()
					}
				}
				spilled := g.Spilled()
				g.Close()
				p.wantClear(t, what)
				wantSpilled(t, what, g, spilled)
				wantOver(t, what, g)
				p.wantClear(t, what+", twice")
				p.wantWithin(t, what, all)
			}
		}
	}
}

// TestCloseLeavesOthersAlone has pages and bytes that are another's since.
func TestCloseLeavesOthersAlone(t *testing.T) {
	for nexts := range len(few()) + 2 {
		p := made(t, 64, 0, 100)
		g := grouper.New(p.d, p.l)
		wantAdds(t, "the first", g, few())
		wantErr(t, "End", g.End(), api.OK)
		for range nexts {
			g.Next()
		}
		// Where all of it was brought, its pages are another's already ahead of the first Close.
		if nexts <= len(few()) {
			g.Close()
		}
		other := grouper.New(p.d, p.l)
		wantAdds(t, "the other", other, few())
		g.Close()
		wantOver(t, "closed", g)
		wantErr(t, "the other's End", other.End(), api.OK)
		g.Close()
		wantRest(t, "the other", other, grouped(few()))
		p.wantClear(t, "the other")
	}
}

// TestTooLong has items of 16 MaxBytes bytes, and of one more, which is not added.
func TestTooLong(t *testing.T) {
	for _, room := range []int{0, longest + 63, longest + 64, 3 * longest, api.MaxBudget - others} {
		for _, key := range []int{0, 1, 1000, longest / 2, longest - 1, longest} {
			p := made(t, 4096, room, 3000)
			g := grouper.New(p.d, p.l)
			all := []top.Item{
				{Key: noise(key, 1), Data: noise(longest-key, 2)},
				it("m", "short"),
				{Key: noise(key, 1), Data: noise(longest-key, 3)},
				it("m", "shorter"),
			}
			for i, x := range all {
				wantErr(t, "Add of "+strconv.Itoa(i), g.Add(x), api.OK)
				was := p.trace(g)
				wantErr(t, "a byte of data more", g.Add(top.Item{Key: noise(key, 1), Data: make([]byte, longest-key+1)}), api.ErrLong)
				wantErr(t, "a byte of the key more", g.Add(top.Item{Key: make([]byte, key+1), Data: make([]byte, longest-key)}), api.ErrLong)
				wantErr(t, "far too long", g.Add(top.Item{Key: make([]byte, 2*longest), Data: make([]byte, 2*longest)}), api.ErrLong)
				p.wantUnchanged(t, "refused", g, was)
			}
			wantErr(t, "End", g.End(), api.OK)
			wantRest(t, "long ones", g, grouped(all))
			p.wantClear(t, "long ones")
			p.wantWithin(t, "long ones", all)
			wantSpilled(t, "long ones", g, room < total(all))
		}
	}
}

// TestTooLongAlone adds nothing, not even a group.
func TestTooLongAlone(t *testing.T) {
	p := made(t, 64, 0, 100)
	g := grouper.New(p.d, p.l)
	wantErr(t, "Add", g.Add(tooLong), api.ErrLong)
	p.wantClear(t, "refused")
	wantAdd(t, "behind", g, it("a", "b"), api.OK)
	wantErr(t, "End", g.End(), api.OK)
	wantRest(t, "refused", g, members("0/a:b"))
	wantSpilled(t, "refused", g, false)
}

// TestNilGrouper has one that is none, and one that New did not make.
func TestNilGrouper(t *testing.T) {
	var none *grouper.Grouper
	for _, g := range []*grouper.Grouper{none, {}, new(grouper.Grouper)} {
		for range 2 {
			wantAdd(t, "none", g, it("a", "b"), api.ErrArg)
			wantErr(t, "too long", g.Add(tooLong), api.ErrArg)
			wantErr(t, "End", g.End(), api.ErrArg)
			wantNone(t, "none", g, api.ErrArg)
			wantSpilled(t, "none", g, false)
			g.Close()
		}
	}
}

// TestNilArguments make no Grouper.
func TestNilArguments(t *testing.T) {
	p := made(t, 64, 0, 0)
	for _, g := range []*grouper.Grouper{grouper.New(nil, nil), grouper.New(p.d, nil), grouper.New(nil, p.l)} {
		if g != nil {
			t.Errorf("New: %v", g)
		}
		wantErr(t, "Add", g.Add(it("a", "b")), api.ErrArg)
	}
	p.wantClear(t, "none")
}

// TestThingsThatNewDidNotMake has a disk without pages and a ledger of nought.
func TestThingsThatNewDidNotMake(t *testing.T) {
	g := grouper.New(&disk.Disk{}, &ledger.Ledger{})
	wantAdd(t, "first", g, it("a", "b"), api.OK)
	wantAdd(t, "second", g, it("a", "b"), api.ErrFull)
	wantOver(t, "full", g)
	wantSpilled(t, "full", g, false)
	p := made(t, 64, 0, 100)
	g = grouper.New(p.d, &ledger.Ledger{})
	wantAdds(t, "a ledger of nought", g, few())
	wantErr(t, "End", g.End(), api.OK)
	wantRest(t, "a ledger of nought", g, grouped(few()))
	p.wantClear(t, "a ledger of nought")
}
