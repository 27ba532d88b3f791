package sorter_test

import (
	"strconv"
	"testing"

	"aqueduct/api"
	"aqueduct/disk"
	"aqueduct/ledger"
	"aqueduct/sorter"
	"aqueduct/top"
)

// spilling are rooms over which the few items of these tests make no run, or two, or many.
func spilling() []int { return []int{0, 70, 100, 150, 10000} }

// few are items of which there are some more than are merged at once over little room.
func few() []top.Item { return parse("f:one e:two f:three d:four c:five e:six a:seven :eight") }

// TestNextAheadOfSort is refused, and what comes then is as ever.
func TestNextAheadOfSort(t *testing.T) {
	for _, room := range spilling() {
		p := made(t, 64, room, 100)
		s := sorter.New(p.d, p.l)
		wantNext(t, "nothing", s, top.Item{}, false, api.ErrState)
		for _, x := range few() {
			wantAdd(t, "room "+strconv.Itoa(room), s, x, api.OK)
			held, runs, ops := p.l.Held(), s.Runs(), p.d.Ops()
			wantNext(t, "ahead", s, top.Item{}, false, api.ErrState)
			if p.l.Held() != held || s.Runs() != runs || p.d.Ops() != ops {
				t.Errorf("a Next that is refused changed it: %d held, %d runs, %d operations", p.l.Held()-held, s.Runs()-runs, p.d.Ops()-ops)
			}
		}
		wantErr(t, "Sort", s.Sort(), api.OK)
		wantRest(t, "ahead", s, sorted(few()))
		p.wantClear(t, "ahead")
	}
}

// TestAddAndSortBehindSort are refused at each place, and what comes then is as ever.
func TestAddAndSortBehindSort(t *testing.T) {
	for _, room := range spilling() {
		p := made(t, 64, room, 100)
		s := sorter.New(p.d, p.l)
		for _, x := range few() {
			s.Add(x)
		}
		wantErr(t, "Sort", s.Sort(), api.OK)
		wantRefused := func() {
			t.Helper()
			held, runs, ops := p.l.Held(), s.Runs(), p.d.Ops()
			wantAdd(t, "behind", s, it("", "early"), api.ErrState)
			wantErr(t, "Add of one too long", s.Add(top.Item{Data: make([]byte, longest+1)}), api.ErrState)
			wantErr(t, "Sort twice", s.Sort(), api.ErrState)
			if p.l.Held() != held || s.Runs() != runs || p.d.Ops() != ops {
				t.Errorf("what is refused changed it: %d held, %d runs, %d operations", p.l.Held()-held, s.Runs()-runs, p.d.Ops()-ops)
			}
		}
		wantRefused()
		for _, x := range sorted(few()) {
			wantNext(t, "behind", s, x, true, api.OK)
			wantRefused()
		}
		for range 3 {
			wantNext(t, "behind the last", s, top.Item{}, false, api.OK)
			wantRefused()
			p.wantClear(t, "behind the last")
		}
	}
}

// TestCloseAtAnyTime closes behind each of the calls that there are.
func TestCloseAtAnyTime(t *testing.T) {
	all := few()
	for _, page := range []int{64, 256} {
		for _, room := range spilling() {
			for calls := range 2*len(all) + 4 {
				what := "room " + strconv.Itoa(room) + ", closed behind " + strconv.Itoa(calls)
				p := made(t, page, room, 100)
				s := sorter.New(p.d, p.l)
				for i := range calls {
					switch {
					case i < len(all):
						wantErr(t, what, s.Add(all[i]), api.OK)
					case i == len(all):
						wantErr(t, what, s.Sort(), api.OK)
					default:
						s.Next()
					}
				}
				runs := s.Runs()
				s.Close()
				p.wantClear(t, what)
				wantRuns(t, what, s, runs)
				wantOver(t, what, s)
				p.wantClear(t, what+", twice")
				p.wantWithin(t, what, all)
			}
		}
	}
}

// TestCloseLeavesOthersAlone has pages and bytes that are another's since.
func TestCloseLeavesOthersAlone(t *testing.T) {
	p := made(t, 64, 0, 100)
	s := sorter.New(p.d, p.l)
	for _, x := range few() {
		s.Add(x)
	}
	s.Sort()
	s.Next()
	s.Close()
	other := sorter.New(p.d, p.l)
	for _, x := range few() {
		wantAdd(t, "the other", other, x, api.OK)
	}
	s.Close()
	wantOver(t, "closed", s)
	wantErr(t, "the other's Sort", other.Sort(), api.OK)
	s.Close()
	wantRest(t, "the other", other, sorted(few()))
	p.wantClear(t, "the other")
}

// TestEndLeavesOthersAlone closes one whose runs were read out, when their pages are another's.
func TestEndLeavesOthersAlone(t *testing.T) {
	p := made(t, 64, 0, 100)
	s, other := sorter.New(p.d, p.l), sorter.New(p.d, p.l)
	for _, x := range few() {
		s.Add(x)
	}
	s.Sort()
	wantRest(t, "the first", s, sorted(few()))
	for _, x := range few() {
		wantAdd(t, "the other", other, x, api.OK)
	}
	s.Close()
	wantErr(t, "the other's Sort", other.Sort(), api.OK)
	s.Close()
	wantRest(t, "the other", other, sorted(few()))
	p.wantClear(t, "the other")
}

// TestTooLong has items of 16 MaxBytes bytes, and of one more, which is not added.
func TestTooLong(t *testing.T) {
	for _, room := range []int{0, longest + 31, longest + 32, 3 * longest, api.MaxBudget - others} {
		for _, key := range []int{0, 1, 1000, longest / 2, longest - 1, longest} {
			p := made(t, 4096, room, 3000)
			s := sorter.New(p.d, p.l)
			all := []top.Item{
				{Key: noise(key, 1), Data: noise(longest-key, 2)},
				it("m", "short"),
				{Key: noise(key, 1), Data: noise(longest-key, 3)},
				it("a", "shorter"),
			}
			y := tally{room: room}
			for i, x := range all {
				y.add(x)
				wantErr(t, "Add of "+strconv.Itoa(i), s.Add(x), api.OK)
				held, ops := p.l.Held(), p.d.Ops()
				wantErr(t, "a byte of data more", s.Add(top.Item{Key: noise(key, 1), Data: make([]byte, longest-key+1)}), api.ErrLong)
				wantErr(t, "a byte of the key more", s.Add(top.Item{Key: make([]byte, key+1), Data: make([]byte, longest-key)}), api.ErrLong)
				wantErr(t, "far too long", s.Add(top.Item{Key: make([]byte, 2*longest), Data: make([]byte, 2*longest)}), api.ErrLong)
				wantRuns(t, "refused", s, y.runs)
				if p.l.Held() != held || p.d.Ops() != ops {
					t.Errorf("what is refused changed it: %d held, %d operations", p.l.Held()-held, p.d.Ops()-ops)
				}
			}
			wantErr(t, "Sort", s.Sort(), api.OK)
			wantRest(t, "long ones", s, sorted(all))
			p.wantClear(t, "long ones")
			p.wantWithin(t, "long ones", all)
		}
	}
}

// TestTooLongAlone adds nothing.
func TestTooLongAlone(t *testing.T) {
	p := made(t, 64, 0, 100)
	s := sorter.New(p.d, p.l)
	wantErr(t, "Add", s.Add(top.Item{Key: make([]byte, longest+1)}), api.ErrLong)
	p.wantClear(t, "refused")
	wantErr(t, "Sort", s.Sort(), api.OK)
	wantRest(t, "refused", s, nil)
	wantRuns(t, "refused", s, 0)
}

// TestNilSorter has one that is none, and one that New did not make.
func TestNilSorter(t *testing.T) {
	var none *sorter.Sorter
	for _, s := range []*sorter.Sorter{none, {}, new(sorter.Sorter)} {
		for range 2 {
			wantAdd(t, "none", s, it("a", "b"), api.ErrArg)
			wantErr(t, "too long", s.Add(top.Item{Key: make([]byte, longest+1)}), api.ErrArg)
			wantErr(t, "Sort", s.Sort(), api.ErrArg)
			wantNext(t, "none", s, top.Item{}, false, api.ErrArg)
			wantRuns(t, "none", s, 0)
			s.Close()
		}
	}
}

// TestNilArguments make no Sorter.
func TestNilArguments(t *testing.T) {
	p := made(t, 64, 0, 0)
	for _, s := range []*sorter.Sorter{sorter.New(nil, nil), sorter.New(p.d, nil), sorter.New(nil, p.l)} {
		if s != nil {
			t.Errorf("New: %v", s)
		}
		wantErr(t, "Add", s.Add(it("a", "b")), api.ErrArg)
	}
	p.wantClear(t, "none")
}

// TestThingsThatNewDidNotMake has a disk without pages and a ledger of nought.
func TestThingsThatNewDidNotMake(t *testing.T) {
	s := sorter.New(&disk.Disk{}, &ledger.Ledger{})
	wantAdd(t, "first", s, it("a", "b"), api.OK)
	wantAdd(t, "second", s, it("a", "b"), api.ErrFull)
	wantOver(t, "full", s)
	p := made(t, 64, 0, 100)
	s = sorter.New(p.d, &ledger.Ledger{})
	for _, x := range few() {
		wantAdd(t, "a ledger of nought", s, x, api.OK)
	}
	wantErr(t, "Sort", s.Sort(), api.OK)
	wantRest(t, "a ledger of nought", s, sorted(few()))
	p.wantClear(t, "a ledger of nought")
}
