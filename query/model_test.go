package query_test

import (
	"bytes"
	"math/rand"
	"slices"
	"strings"
	"testing"

	"aqueduct/api"
	"aqueduct/bson"
	"aqueduct/expr"
	"aqueduct/key"
	"aqueduct/query"
)

// The model asks a query from its value, with nothing read ahead: paths name by name for all values at once, comparisons by the bytes of keys, errors as panics.

type model struct{ d api.Value }

// modelled is what the model says of a query that may be.
func modelled(q, d api.Value) (matches bool, e api.Errno) {
	defer func() {
		if r := recover(); r != nil {
			matches, e = false, r.(api.Errno)
		}
	}()
	return model{d}.query(q), api.OK
}

func (m model) query(q api.Value) bool {
	return !slices.ContainsFunc(q.F, func(f api.Field) bool { return !m.field(f.Name, f.V) })
}

func (m model) field(name string, v api.Value) bool {
	switch name {
	case "$and":
		return !slices.ContainsFunc(v.L, func(q api.Value) bool { return !m.query(q) })
	case "$or":
		return slices.ContainsFunc(v.L, m.query)
	case "$nor":
		return !slices.ContainsFunc(v.L, m.query)
	case "$expr":
		return m.expression(v)
	}
	found := row(m.d)
	for _, name := range strings.Split(name, ".") {
		found = step(found, name)
	}
	for _, x := range slices.Clone(found) {
		found = append(found, itemsOf(x)...)
	}
	if !isConditions(v) {
		v = is("$eq", v)
	}
	return all(v, found)
}

func (m model) expression(v api.Value) bool {
	x, e := expr.Parse(op("$and", v))
	if e != api.OK {
		panic(e)
	}
	answer, e := x.Eval(m.d)
	if e != api.OK {
		panic(e)
	}
	return bson.Same(answer, yes)
}

func itemsOf(v api.Value) []api.Value {
	if v.Kind != api.List {
		return nil
	}
	return v.L
}

// step is what one name of a path leads to from each of some values.
func step(l []api.Value, name string) []api.Value {
	var found []api.Value
	for _, v := range l {
		inner := slices.DeleteFunc(slices.Clone(itemsOf(v)), func(x api.Value) bool { return x.Kind != api.Doc })
		if len(inner) == 0 {
			inner = row(v)
		}
		for _, x := range inner {
			found = append(found, bson.Get(x, name))
		}
	}
	return found
}

func isConditions(v api.Value) bool {
	return v.Kind == api.Doc && len(v.F) > 0 && strings.HasPrefix(v.F[0].Name, "$")
}

// all tells whether all conditions of a Doc hold.
func all(v api.Value, found []api.Value) bool {
	for _, f := range v.F {
		if !meets(f.Name, f.V, found) {
			return false
		}
	}
	return true
}

func meets(name string, v api.Value, found []api.Value) bool {
	switch name {
	case "$not":
		return !all(v, found)
	case "$ne":
		return !meets("$eq", v, found)
	case "$nin":
		return !meets("$in", v, found)
	case "$in":
		one := false
		for _, x := range v.L {
			one = one || meets("$eq", x, found)
		}
		return one
	case "$exists":
		there := slices.DeleteFunc(slices.Clone(found), func(x api.Value) bool { return nameOf(x) == "missing" })
		return (len(there) > 0) == (v.N != 0)
	}
	for _, x := range found {
		if suits(name, v, x) {
			return true
		}
	}
	return false
}

// nameOf is what a value's kind is called.
func nameOf(v api.Value) string {
	if v.Kind < 0 || v.Kind > api.Greatest {
		return "none"
	}
	return typeNames()[v.Kind]
}

// suits tells whether one value is as asked.
func suits(name string, v, x api.Value) bool {
	n := bytes.Compare(key.Encode(row(x), nil), key.Encode(row(v), nil))
	kin := class(x) == class(v)
	switch name {
	case "$eq":
		return n == 0 || nameOf(v) == "null" && nameOf(x) == "missing"
	case "$gt":
		return kin && n > 0
	case "$gte":
		return kin && n >= 0
	case "$lt":
		return kin && n < 0
	case "$lte":
		return kin && n <= 0
	case "$size":
		return nameOf(x) == "array" && v.N == int64(len(x.L))
	case "$type":
		return nameOf(x) == v.S
	}
	panic(name)
}

// class is what values that are compared have in common.
func class(v api.Value) string {
	return strings.Replace(nameOf(v), "long", "int", 1)
}

// TestAgainstTheModel has any queries of any documents.
func TestAgainstTheModel(t *testing.T) {
	c := chance{rand.New(rand.NewSource(11))}
	matches, errors, seen := map[bool]int{}, map[api.Errno]int{}, map[string]int{}
	for range 30000 {
		v := c.query(c.Intn(4))
		if nodesOf(v) > api.MaxNodes {
			wantNoQuery(t, v, api.ErrLong)
			continue
		}
		for range 3 {
			d := c.document(4)
			b, e := modelled(v, d)
			wantAnswer(t, v, d, b, e)
			matches[b]++
			errors[e]++
		}
		wantReadAsModelled(t, v)
		endIfFailed(t)
		count(seen, v)
	}
	if matches[true] < 20000 || matches[false] < 20000 || errors[api.ErrType] < 500 || errors[api.ErrZero] < 10 {
		t.Error(matches, errors)
	}
	for _, name := range append(comparing(), "$in", "$nin", "$exists", "$size", "$type", "$not", "$and", "$or", "$nor", "$expr") {
		if seen[name] < 1000 {
			t.Errorf("%s: %d", name, seen[name])
		}
	}
}

// TestConditionsAgainstTheModel has one field alone, so that nothing else decides.
func TestConditionsAgainstTheModel(t *testing.T) {
	c := chance{rand.New(rand.NewSource(12))}
	matches := map[string]int{}
	for range 60000 {
		v, d := is(c.word("a", "b", "a.b"), c.condition(2)), c.document(4)
		b, _ := modelled(v, d)
		want(t, v, d, b)
		endIfFailed(t)
		if b {
			matches[v.F[0].V.F[0].Name]++
		} else {
			matches["no "+v.F[0].V.F[0].Name]++
		}
	}
	for _, name := range append(comparing(), "$in", "$nin", "$exists", "$size", "$type", "$not") {
		if matches[name] < 100 || matches["no "+name] < 100 {
			t.Errorf("%s: %d, %d", name, matches[name], matches["no "+name])
		}
	}
}

func count(seen map[string]int, v api.Value) {
	for _, f := range v.F {
		seen[f.Name]++
		count(seen, f.V)
	}
	for _, x := range v.L {
		count(seen, x)
	}
}

// wantReadAsModelled has Paths and Fails of a query as a walk over a list of what is still to be seen has them.
func wantReadAsModelled(t *testing.T, v api.Value) {
	t.Helper()
	var paths []string
	mayFail := false
	for todo := slices.Clone(v.F); len(todo) > 0; {
		f := todo[0]
		todo = todo[1:]
		switch f.Name {
		case "$and", "$or", "$nor":
			var inner []api.Field
			for _, q := range f.V.L {
				inner = append(inner, q.F...)
			}
			todo = append(inner, todo...)
		case "$expr":
			mayFail = true
			paths = append(paths, pathsIn(f.V)...)
		default:
			paths = append(paths, f.Name)
		}
	}
	wantRead(t, v, mayFail, paths...)
}

// pathsIn are those of an expression that has no $literal.
func pathsIn(v api.Value) []string {
	if v.Kind == api.Text && strings.HasPrefix(v.S, "$") {
		return []string{v.S[1:]}
	}
	var l []string
	for _, f := range v.F {
		l = append(l, pathsIn(f.V)...)
	}
	for _, x := range v.L {
		l = append(l, pathsIn(x)...)
	}
	return l
}

// Queries in other words: each way brings the same of every document, errors too.

// reworded asks each field of a query by itself.
func reworded(q api.Value) api.Value {
	var l []api.Value
	for _, f := range q.F {
		l = append(l, rewordedField(f.Name, f.V))
	}
	if len(l) == 0 {
		return op("$nor", op("$nor", doc()))
	}
	return op("$and", l...)
}

func rewordedField(name string, v api.Value) api.Value {
	var l, turned []api.Value
	for _, x := range v.L {
		l = append(l, reworded(x))
		turned = append(turned, op("$nor", reworded(x)))
	}
	switch name {
	case "$and":
		return op("$nor", turned...)
	case "$or":
		return op("$nor", op("$nor", l...))
	case "$nor":
		return op("$and", turned...)
	case "$expr":
		return is("$expr", is("$not", is("$not", v)))
	}
	if !isConditions(v) {
		return is(name, op("$in", v))
	}
	l = nil
	for _, f := range v.F {
		l = append(l, rewordedCondition(name, f.Name, f.V))
	}
	return op("$and", l...)
}

func rewordedCondition(path, name string, v api.Value) api.Value {
	ask := func(name string, v api.Value) api.Value { return is(path, is(name, v)) }
	switch name {
	case "$eq":
		return op("$nor", ask("$ne", v))
	case "$ne":
		return ask("$not", is("$eq", v))
	case "$gte":
		return op("$or", ask("$gt", v), ask("$not", is("$not", is("$gte", v))))
	case "$not":
		return op("$nor", rewordedField(path, v))
	case "$exists":
		return ask("$not", is("$exists", boolean(1-v.N)))
	case "$in", "$nin":
		some := row(fails())
		for _, x := range v.L {
			if takes("$eq", x) {
				some = append(some, ask("$eq", x))
			} else {
				some = append(some, ask("$in", list(x)))
			}
		}
		if name == "$in" {
			return op("$or", some...)
		}
		return op("$nor", some...)
	}
	return op("$or", ask(name, v))
}

// TestInOtherWords has any queries of any documents, asked in two ways.
func TestInOtherWords(t *testing.T) {
	c := chance{rand.New(rand.NewSource(13))}
	asked := 0
	for range 15000 {
		v := c.query(c.Intn(3))
		other := reworded(v)
		if _, e := query.Parse(other); e == api.ErrLong || e == api.ErrDeep {
			continue
		}
		asked++
		x, y := parsed(t, v), parsed(t, other)
		for range 3 {
			d := c.document(4)
			b, e := x.Test(d)
			if other, f := y.Test(d); b != other || e != f {
				t.Fatalf("%s of %s: %v, %v, in other words %v, %v", show(v), show(d), b, e, other, f)
			}
		}
	}
	if asked < 10000 {
		t.Error(asked)
	}
}

// What the model says of Parse.

// firstError goes through fields in order; what is within one comes ahead of the next.
func firstError(v api.Value) api.Errno {
	if v.Kind != api.Doc {
		return api.ErrQuery
	}
	for _, f := range v.F {
		if e := fieldError(f.Name, f.V); e != api.OK {
			return e
		}
	}
	return api.OK
}

func fieldError(name string, v api.Value) api.Errno {
	switch name {
	case "$and", "$or", "$nor":
		for _, q := range itemsOf(v) {
			if e := firstError(q); e != api.OK {
				return e
			}
		}
		return map[bool]api.Errno{true: api.ErrQuery}[len(itemsOf(v)) == 0]
	case "$expr":
		_, e := expr.Parse(v)
		return e
	}
	for i, s := range strings.Split(name, ".") {
		switch {
		case i == 0 && strings.HasPrefix(s, "$"):
			return api.ErrQuery
		case s == "" || s[0] == '$' || strings.ContainsRune(s, 0) || i == api.MaxPath:
			return api.ErrName
		}
	}
	if !isConditions(v) {
		v = is("$eq", v)
	}
	return map[bool]api.Errno{true: api.ErrQuery}[!areConditions(v)]
}

func areConditions(v api.Value) bool {
	good := v.Kind == api.Doc && len(v.F) > 0
	for _, f := range v.F {
		known := slices.Contains(append(comparing(), "$in", "$nin", "$exists", "$size", "$type"), f.Name)
		good = good && (known && takes(f.Name, f.V) || f.Name == "$not" && areConditions(f.V))
	}
	return good
}

// places are the values within v, itself too, which may be changed there.
func places(v *api.Value) []*api.Value {
	l := []*api.Value{v}
	for i := range v.F {
		l = append(l, places(&v.F[i].V)...)
	}
	for i := range v.L {
		l = append(l, places(&v.L[i])...)
	}
	return l
}

// spoilt are values that may be no query or no condition, or not where they are put.
func (c chance) spoilt() api.Value {
	l := row(missing, none(13), i32(1), yes, text("int"), text("$"), list(), doc(), list(doc()), is("$eq", null), is("$none", null), is("", null), is("a..b", null), is("a.$b", is("$none", null)), is("$size", text("x")),
		is("$expr", text("$")), is("$expr", missing), is("$expr", op("$eq", null)), is("$not", doc()), is("$and", null), op("$or"), is("a", is("$not", is("$size", null))), is("a", docs(is("$eq", null), is("b", null))))
	return c.pick(l)
}

// TestReadingAgainstTheModel has queries in which one to three values or names are put in place of others, some with more than one error.
func TestReadingAgainstTheModel(t *testing.T) {
	c := chance{rand.New(rand.NewSource(14))}
	seen := map[api.Errno]int{}
	for range 60000 {
		v := bson.Copy(c.query(1 + c.Intn(3)))
		for range 1 + c.Intn(3) {
			l := places(&v)
			x := l[c.Intn(len(l))]
			if len(x.F) > 0 && c.Intn(2) == 0 {
				x.F[c.Intn(len(x.F))].Name = c.word("$none", "$and", "$or", "$expr", "$eq", "$in", "$exists", "$size", "$type", "$not", "a", "", "a.", "a.$", "$")
			} else {
				*x = c.spoilt()
			}
		}
		if nodesOf(v) > api.MaxNodes {
			continue
		}
		want := firstError(v)
		q, e := query.Parse(v)
		if e != want || (q == nil) != (e != api.OK) {
			t.Fatalf("Parse of %s: %v, want %v", show(v), e, want)
		}
		seen[e]++
	}
	if seen[api.OK] < 5000 || seen[api.ErrQuery] < 5000 || seen[api.ErrName] < 1000 || seen[api.ErrType] < 200 {
		t.Error(seen)
	}
}
