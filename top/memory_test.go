package top_test

import (
	"strconv"
	"testing"

	"aqueduct/top"
)

// spoil changes all that hangs on items, spare room too.
func spoil(l []top.Item) {
	for _, x := range l {
		for _, b := range [][]byte{x.Key[:cap(x.Key)], x.Data[:cap(x.Data)]} {
			for i := range b {
				b[i] = 0x55
			}
		}
	}
	for i := range l[:cap(l)] {
		l[:cap(l)][i] = it("spoilt", "spoilt")
	}
}

// some are items of which the last ones drive others out.
func some() []top.Item { return parse("f:one e:two f:three d:four c:five e:six a:seven :eight") }

// TestWhatIsHandedInIsTheCallers has it changed behind Add.
func TestWhatIsHandedInIsTheCallers(t *testing.T) {
	for k := range 10 {
		x := top.New(k)
		all := some()
		for i := range all {
			item := copies(all[i : i+1])
			x.Add(item[0])
			spoil(item)
			wantTop(t, x, "k "+strconv.Itoa(k), first(k, all[:i+1]))
		}
	}
}

// TestOneListForAll has each item written into the one that came ahead of it.
func TestOneListForAll(t *testing.T) {
	x := top.New(3)
	key, data := make([]byte, 1), make([]byte, 1)
	for i, c := range []byte("gfedcba") {
		key[0], data[0] = c, '0'+byte(i)
		x.Add(top.Item{Key: key, Data: data})
	}
	wantTop(t, x, "one list", parse("a:6 b:5 c:4"))
}

// TestRoomIsLeftAlone has room behind the key and the data, and both in one list.
func TestRoomIsLeftAlone(t *testing.T) {
	b := []byte("keydataroom")
	x := top.New(2)
	x.Add(top.Item{Key: b[:3], Data: b[3:7]})
	x.Add(top.Item{Key: b[:2], Data: b[:0]})
	x.Add(top.Item{Key: b[:1], Data: b[1:2]})
	l := x.List()
	for i := range l {
		l[i].Key = append(l[i].Key, "more"...)
		l[i].Data = append(l[i].Data, "more"...)
	}
	if string(b) != "keydataroom" {
		t.Errorf("it is %q now", b)
	}
	wantTop(t, x, "room", []top.Item{it("k", "e"), it("ke", "")})
}

// TestWhatIsAnsweredIsTheCallers has List changed by who was handed it, between any two items.
func TestWhatIsAnsweredIsTheCallers(t *testing.T) {
	for k := range 10 {
		x := top.New(k)
		all := some()
		for i, item := range all {
			x.Add(item)
			spoil(x.List())
			wantTop(t, x, "k "+strconv.Itoa(k), first(k, all[:i+1]))
		}
	}
}

// TestListStays has more added behind one that was answered.
func TestListStays(t *testing.T) {
	for k := range 10 {
		x := top.New(k)
		all := some()
		var lists [][]top.Item
		for _, item := range all {
			lists = append(lists, x.List())
			x.Add(item)
		}
		for i, l := range lists {
			if !alike(l, first(k, all[:i])) {
				t.Errorf("k %d: the List of %d is now%s", k, i, show(l))
			}
		}
	}
}

// TestOneListsItemsAreApart has one item added twice, and one of both changed in the answer.
func TestOneListsItemsAreApart(t *testing.T) {
	x := top.New(4)
	b := []byte("both")
	for range 2 {
		x.Add(top.Item{Key: b, Data: b})
	}
	l, other := x.List(), x.List()
	spoil(l[:1:1])
	if !alike(l[1:], []top.Item{it("both", "both")}) || !alike(other, []top.Item{it("both", "both"), it("both", "both")}) {
		t.Errorf("they are not apart:%s,%s", show(l), show(other))
	}
	spoil(x.List()[1:])
	wantTop(t, x, "both", []top.Item{it("both", "both"), it("both", "both")})
}

// TestTopsAreApart has two go on by turns, one of them with what the other one answers.
func TestTopsAreApart(t *testing.T) {
	a, b := top.New(3), top.New(5)
	var toA, toB []top.Item
	for i, item := range some() {
		toA = append(toA, item)
		a.Add(item)
		wantTop(t, b, "b, ahead", first(5, toB))
		for _, x := range a.List() {
			toB = append(toB, copies([]top.Item{x})...)
			b.Add(x)
			spoil([]top.Item{x})
		}
		wantTop(t, a, "a, step "+strconv.Itoa(i), first(3, toA))
		wantTop(t, b, "b, step "+strconv.Itoa(i), first(5, toB))
	}
}

// TestNone has none, and one that New did not make.
func TestNone(t *testing.T) {
	var none *top.Top
	for _, x := range []*top.Top{none, {}, new(top.Top)} {
		for range 2 {
			wantTop(t, x, "none", nil)
			wantAdd(t, x, "none", it("a", "b"), false)
			wantAdd(t, x, "none", top.Item{}, false)
		}
	}
}
