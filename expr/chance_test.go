package expr_test

import (
	"math/rand"

	"aqueduct/api"
)

// chance makes documents and expressions, most of whose operators find what they ask for.
type chance struct{ *rand.Rand }

func (c chance) pick(l []api.Value) api.Value { return l[c.Intn(len(l))] }

func (c chance) word(l ...string) string { return l[c.Intn(len(l))] }

func (c chance) number() api.Value {
	n := int64(c.Intn(9) - 4)
	switch c.Intn(12) {
	case 0:
		n = []int64{low32, high32, low64, high64, 1 << 32, 1 << 62}[c.Intn(6)]
	case 1:
		n = int64(c.Uint64()) >> c.Intn(64)
	}
	if c.Intn(3) == 0 || n < low32 || n > high32 {
		return i64(n)
	}
	return i32(n)
}

// value is one of any kind, some of which may not be.
func (c chance) value(depth int) api.Value {
	switch n := c.Intn(14); {
	case n < 4:
		return c.number()
	case n < 6:
		return text(c.word("", "a", "ab", "b", "\xff", "$a"))
	case n < 8 && depth > 0:
		return list(c.values(depth)...)
	case n < 10 && depth > 0:
		return c.document(depth)
	case n == 10:
		return c.pick(row(no, yes))
	case n == 11:
		return null
	}
	return c.pick(row(least, null, no, yes, boolean(3), date(0), date(7), raw(""), raw("\x00a"), id("abcdefghijkl"), greatest, missing, none(13), none(-1)))
}

func (c chance) values(depth int) []api.Value {
	var l []api.Value
	for range c.Intn(4) {
		l = append(l, c.value(depth-1))
	}
	return l
}

// document has fields of known sorts, so that paths find what operators ask for.
func (c chance) document(depth int) api.Value {
	d := doc()
	for _, name := range []string{"a", "b", "l", "n", "s", "t"} {
		v := c.value(depth - 1)
		switch {
		case c.Intn(6) == 0:
			continue
		case c.Intn(5) == 0:
		case name == "n":
			v = c.number()
		case name == "l":
			v = list(c.values(depth)...)
		case name == "s":
			v = text(c.word("", "x", "yz"))
		case name == "t":
			v = c.pick(row(no, yes))
		}
		d.F = append(d.F, api.Field{Name: name, V: v})
	}
	return d
}

// anything is an expression of whatever sort.
func (c chance) anything(depth int) api.Value {
	if depth <= 0 {
		return c.leaf("a", "b", "l", "n", "s", "t", "a.b", "l.n", "a.l.b")
	}
	switch c.Intn(12) {
	case 0:
		return is(c.word("$add", "$multiply", "$and", "$or", "$concat", "$not", "$abs", "$size"), c.notAList(depth-1))
	case 1, 2:
		return c.truth(depth)
	case 3, 4:
		return c.sum(depth)
	case 5:
		return c.joined(depth)
	case 6:
		return c.items(depth)
	case 7:
		return op("$arrayElemAt", c.items(depth-1), c.sum(depth-1))
	case 8:
		return op("$cond", c.truth(depth-1), c.anything(depth-1), c.anything(depth-1))
	case 9:
		return op("$ifNull", c.anything(depth-1), c.anything(depth-1))
	case 10:
		return literal(c.value(2))
	}
	return c.shape(depth)
}

// notAList is one argument, as it stands.
func (c chance) notAList(depth int) api.Value {
	for {
		if v := c.anything(depth); v.Kind != api.List {
			return v
		}
	}
}

// shape is a Doc of expressions.
func (c chance) shape(depth int) api.Value {
	d := doc()
	for range c.Intn(4) {
		d.F = append(d.F, api.Field{Name: c.word("a", "b", "c", "", "d.e", "f$"), V: c.anything(depth - 1)})
	}
	return d
}

// leaf is a path of one of those, or a value.
func (c chance) leaf(paths ...string) api.Value {
	if c.Intn(3) > 0 {
		return text("$" + c.word(paths...))
	}
	for {
		if v := c.value(0); stands(v) {
			return v
		}
		if c.Intn(3) == 0 {
			return literal(c.value(1))
		}
	}
}

func (c chance) some(depth int, make func(int) api.Value) []api.Value {
	var l []api.Value
	for range c.Intn(4) {
		l = append(l, make(depth-1))
	}
	return l
}

func (c chance) truth(depth int) api.Value {
	if depth <= 0 {
		return c.leaf("t", "t", "n", "a")
	}
	switch c.Intn(5) {
	case 0:
		return op(c.word("$and", "$or"), c.some(depth, c.truth)...)
	case 1:
		return op("$not", c.truth(depth-1))
	case 2:
		return op(c.word("$and", "$or"), c.some(depth, c.anything)...)
	case 3:
		return op(c.word("$eq", "$ne", "$gt", "$gte", "$lt", "$lte"), c.sum(depth-1), c.sum(depth-1))
	}
	return op(c.word("$eq", "$ne", "$gt", "$gte", "$lt", "$lte"), c.anything(depth-1), c.anything(depth-1))
}

func (c chance) sum(depth int) api.Value {
	if depth <= 0 {
		if c.Intn(2) == 0 {
			return c.number()
		}
		return c.leaf("n", "n", "n", "a", "x")
	}
	switch c.Intn(7) {
	case 0, 1:
		return op(c.word("$add", "$multiply"), c.some(depth, c.sum)...)
	case 2, 3:
		return op(c.word("$subtract", "$divide", "$mod"), c.sum(depth-1), c.sum(depth-1))
	case 4:
		return op("$abs", c.sum(depth-1))
	case 5:
		return op("$size", c.items(depth-1))
	}
	return op("$cmp", c.anything(depth-1), c.anything(depth-1))
}

func (c chance) joined(depth int) api.Value {
	if depth <= 0 {
		return c.leaf("s", "s", "s", "b")
	}
	if c.Intn(3) == 0 {
		return op("$type", c.anything(depth-1))
	}
	return op("$concat", c.some(depth, c.joined)...)
}

// items is mostly a List.
func (c chance) items(depth int) api.Value {
	if depth <= 0 || c.Intn(3) == 0 {
		return c.leaf("l", "l", "l", "l.n", "a")
	}
	return list(c.some(depth, c.anything)...)
}
