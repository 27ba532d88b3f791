package query_test

import (
	"math/rand"

	"aqueduct/api"
)

// chance makes documents, and queries that many of them match.
type chance struct{ *rand.Rand }

func (c chance) pick(l []api.Value) api.Value { return l[c.Intn(len(l))] }

func (c chance) word(l ...string) string { return l[c.Intn(len(l))] }

// value is one of any kind, some of which may not be.
func (c chance) value(depth int) api.Value {
	switch n := c.Intn(16); {
	case n < 6:
		return c.pick(row(i32(int64(c.Intn(4))), i64(int64(c.Intn(4)))))
	case n < 7:
		return text(c.word("", "a", "ab", "b", "$a"))
	case n < 10 && depth > 0:
		return list(c.values(depth)...)
	case n < 13 && depth > 0:
		return c.document(depth)
	case n < 14:
		return null
	}
	return c.pick(row(least, null, no, yes, boolean(3), date(0), date(7), raw(""), raw("\x00a"), id("abcdefghijkl"), greatest, missing, none(13), none(-1)))
}

// operand is one that may be compared with; what is within may be no value.
func (c chance) operand(depth int) api.Value {
	v := c.value(depth)
	for !takes("$eq", v) {
		v = c.value(depth)
	}
	return v
}

func (c chance) values(depth int) []api.Value {
	var l []api.Value
	for range c.Intn(4) {
		l = append(l, c.value(depth-1))
	}
	return l
}

// document has few names, so that paths find much.
func (c chance) document(depth int) api.Value {
	d := doc()
	for _, name := range []string{"a", "b", "c"} {
		if c.Intn(5) > 0 {
			d.F = append(d.F, api.Field{Name: name, V: c.value(depth - 1)})
		}
	}
	c.Shuffle(len(d.F), func(i, j int) { d.F[i], d.F[j] = d.F[j], d.F[i] })
	return d
}

func (c chance) path() string {
	return c.word("a", "b", "c", "a", "b", "a.b", "a.a", "b.c", "c.a", "a.b.c", "x", "b.x")
}

// query has up to three fields.
func (c chance) query(depth int) api.Value {
	q := doc()
	for range c.Intn(4) {
		q.F = append(q.F, c.field(depth))
	}
	return q
}

func (c chance) field(depth int) api.Field {
	n := c.Intn(10)
	switch {
	case n < 3 && depth > 0:
		l := row(c.query(depth - 1))
		for range c.Intn(3) {
			l = append(l, c.query(depth-1))
		}
		return api.Field{Name: c.word("$and", "$or", "$nor"), V: list(l...)}
	case n == 3:
		return api.Field{Name: "$expr", V: c.expression()}
	case n == 4:
		return api.Field{Name: c.path(), V: c.operand(2)}
	}
	return api.Field{Name: c.path(), V: c.conditions(2)}
}

func (c chance) expression() api.Value {
	x, y := text("$"+c.path()), text("$"+c.path())
	return c.pick(row(x, op(c.word("$eq", "$lt", "$gte"), x, y), op(c.word("$add", "$subtract", "$divide"), x, y), op("$and", x, op("$divide", i32(1), y)), is("$not", is("$size", x)), i32(int64(c.Intn(2)))))
}

// conditions are one to three.
func (c chance) conditions(depth int) api.Value {
	d := doc()
	for range 1 + c.Intn(5)/2 {
		d.F = append(d.F, c.condition(depth).F...)
	}
	return d
}

func (c chance) condition(depth int) api.Value {
	switch n := c.Intn(12); {
	case n < 2:
		return is(c.word("$in", "$nin"), list(c.values(3)...))
	case n == 2:
		return is("$exists", c.pick(row(no, yes)))
	case n == 3:
		return is("$size", c.pick(row(i32(int64(c.Intn(4))), i64(int64(c.Intn(3))))))
	case n == 4:
		return is("$type", text(c.word(typeNames()[1:]...)))
	case n < 7 && depth > 0:
		return is("$not", c.conditions(depth-1))
	}
	return is(c.word(comparing()...), c.operand(2))
}
