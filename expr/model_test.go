package expr_test

import (
	"bytes"
	"math/big"
	"math/rand"
	"slices"
	"strings"
	"testing"

	"aqueduct/api"
	"aqueduct/bson"
	"aqueduct/expr"
	"aqueduct/key"
)

// The model reckons an expression from its value, with nothing read ahead: numbers without ends, comparisons by the bytes of keys, errors as panics.

type model struct{ d api.Value }

// modelled is what the model says of an expression that may be.
func modelled(v, d api.Value) (x api.Value, e api.Errno) {
	defer func() {
		if r := recover(); r != nil {
			x, e = missing, r.(api.Errno)
		}
	}()
	return model{d}.eval(v), api.OK
}

func (m model) eval(v api.Value) api.Value {
	switch {
	case v.Kind == api.Text && strings.HasPrefix(v.S, "$"):
		x := m.d
		for _, name := range strings.Split(v.S[1:], ".") {
			x = step(x, name)
		}
		return x
	case v.Kind == api.List:
		l := list()
		for _, x := range v.L {
			if x = m.eval(x); x.Kind == api.Missing {
				x = null
			}
			l.L = append(l.L, x)
		}
		return l
	case v.Kind == api.Doc && len(v.F) == 1 && strings.HasPrefix(v.F[0].Name, "$"):
		return m.operator(v.F[0].Name, v.F[0].V)
	case v.Kind == api.Doc:
		made := doc()
		for _, f := range v.F {
			made.F = append(made.F, api.Field{Name: f.Name, V: m.eval(f.V)})
		}
		made.F = slices.DeleteFunc(made.F, func(f api.Field) bool { return f.V.Kind == api.Missing })
		return made
	}
	return v
}

// step is what one name of a path leads to.
func step(v api.Value, name string) api.Value {
	if v.Kind != api.List {
		return bson.Get(v, name)
	}
	l := list()
	for _, x := range v.L {
		if x.Kind == api.Doc || x.Kind == api.List {
			if x = step(x, name); x.Kind != api.Missing {
				l.L = append(l.L, x)
			}
		}
	}
	return l
}

func (m model) operator(name string, v api.Value) api.Value {
	l := row(v)
	if v.Kind == api.List {
		l = v.L
	}
	switch name {
	case "$literal":
		return v
	case "$and":
		return truth(!slices.ContainsFunc(l, func(x api.Value) bool { return !isTrue(m.eval(x)) }))
	case "$or":
		return truth(slices.ContainsFunc(l, func(x api.Value) bool { return isTrue(m.eval(x)) }))
	case "$cond":
		at := map[bool]int{true: 1, false: 2}[isTrue(m.eval(l[0]))]
		return m.eval(l[at])
	case "$ifNull":
		if x := m.eval(l[0]); !nothing(x) {
			return x
		}
		return m.eval(l[1])
	}
	var values []api.Value
	for _, x := range l {
		values = append(values, m.eval(x))
	}
	return made(name, values)
}

// made is what an operator makes of all its arguments.
func made(name string, l []api.Value) api.Value {
	switch name {
	case "$add", "$multiply":
		x := map[string]api.Value{"$add": i32(0), "$multiply": i32(1)}[name]
		for _, y := range l {
			x = reckoned(name, x, y)
		}
		return x
	case "$subtract", "$divide", "$mod":
		return reckoned(name, l[0], l[1])
	case "$abs":
		return reckoned(name, l[0], l[0])
	case "$not":
		return truth(!isTrue(l[0]))
	case "$type":
		return text(typeName(l[0].Kind))
	case "$size":
		must(l[0].Kind == api.List, api.ErrType)
		return i32(int64(len(l[0].L)))
	case "$concat":
		return concat(l)
	case "$arrayElemAt":
		return elementAt(l)
	}
	n := bytes.Compare(key.Encode(l[:1], nil), key.Encode(l[1:], nil))
	if name == "$cmp" {
		return i32(int64(n))
	}
	return truth(map[string]bool{"$eq": n == 0, "$ne": n != 0, "$gt": n == 1, "$gte": n != -1, "$lt": n == -1, "$lte": n != 1}[name])
}

// must panics with e, where that does not hold.
func must(holds bool, e api.Errno) {
	if !holds {
		panic(e)
	}
}

func nothing(v api.Value) bool { return v.Kind == api.Missing || v.Kind == api.Null }

func numeric(v api.Value) bool { return v.Kind == api.Int32 || v.Kind == api.Int64 }

func truth(b bool) api.Value {
	if b {
		return yes
	}
	return no
}

// isTrue holds v against all that is not.
func isTrue(v api.Value) bool {
	return !slices.ContainsFunc(falses(), func(x api.Value) bool { return bson.Same(x, v) })
}

func typeName(kind int) string {
	names := strings.Fields("missing minKey null int long string object array binData objectId bool date maxKey")
	if kind < 0 || kind >= len(names) {
		return ""
	}
	return names[kind]
}

func concat(l []api.Value) api.Value {
	if slices.ContainsFunc(l, nothing) {
		return null
	}
	var b []byte
	for _, v := range l {
		must(v.Kind == api.Text, api.ErrType)
		b = append(b, v.S...)
	}
	must(len(b) <= api.MaxBytes, api.ErrLong)
	return text(string(b))
}

func elementAt(l []api.Value) api.Value {
	if slices.ContainsFunc(l, nothing) {
		return null
	}
	must(l[0].Kind == api.List && numeric(l[1]), api.ErrType)
	items, n := slices.Clone(l[0].L), big.NewInt(l[1].N)
	if n.Sign() < 0 {
		slices.Reverse(items)
		n.Not(n)
	}
	for i, v := range items {
		if n.Cmp(big.NewInt(int64(i))) == 0 {
			return v
		}
	}
	return missing
}

func reckoned(name string, a, b api.Value) api.Value {
	if nothing(a) || nothing(b) {
		return null
	}
	must(numeric(a) && numeric(b), api.ErrType)
	x, y, n := big.NewInt(a.N), big.NewInt(b.N), new(big.Int)
	switch name {
	case "$add":
		n.Add(x, y)
	case "$subtract":
		n.Sub(x, y)
	case "$multiply":
		n.Mul(x, y)
	case "$abs":
		n.Abs(x)
	case "$divide":
		must(b.N != 0, api.ErrZero)
		n.Quo(x, y)
	case "$mod":
		must(b.N != 0, api.ErrZero)
		n.Rem(x, y)
	}
	must(n.IsInt64(), api.ErrRange)
	if a.Kind == api.Int64 || b.Kind == api.Int64 || n.Int64() != int64(int32(n.Int64())) {
		return i64(n.Int64())
	}
	return i32(n.Int64())
}

// TestAgainstTheModel has any expressions of any documents.
func TestAgainstTheModel(t *testing.T) {
	c := chance{rand.New(rand.NewSource(10))}
	kinds, errors, seen := map[int]int{}, map[api.Errno]int{}, map[string]int{}
	for range 40000 {
		v := c.anything(1 + c.Intn(4))
		if nodesOf(v) > api.MaxNodes {
			wantNoExpr(t, v, api.ErrLong)
			continue
		}
		for range 2 {
			d := c.document(3)
			x, e := modelled(v, d)
			wantAnswer(t, v, d, x, e)
			kinds[x.Kind]++
			errors[e]++
		}
		wantReadAsModelled(t, v)
		endIfFailed(t)
		if v.Kind == api.Doc && len(v.F) == 1 {
			seen[v.F[0].Name]++
		}
	}
	for kind := api.Missing; kind <= api.Greatest; kind++ {
		if kinds[kind] < 50 {
			t.Errorf("kind %d: %d", kind, kinds[kind])
		}
	}
	for _, e := range []api.Errno{api.ErrType, api.ErrZero, api.ErrRange} {
		if errors[e] < 200 || errors[api.OK] < 20000 {
			t.Error(errors)
		}
	}
	for name := range operators() {
		if seen[name] < 100 || seen["$literal"] < 100 {
			t.Errorf("%s: %d", name, seen[name])
		}
	}
}

// wantReadAsModelled has Paths and Nodes of an expression as a walk over a list of what is still to be seen has them.
func wantReadAsModelled(t *testing.T, v api.Value) {
	t.Helper()
	var paths []string
	for todo := row(v); len(todo) > 0; {
		x := todo[0]
		todo = slices.Concat(partsOf(x), todo[1:])
		if x.Kind == api.Text && strings.HasPrefix(x.S, "$") {
			paths = append(paths, x.S[1:])
		}
	}
	wantRead(t, v, nodesOf(v), paths...)
}

// partsOf are the expressions within one, a List of arguments being one of them.
func partsOf(v api.Value) []api.Value {
	l := slices.Clone(v.L)
	for _, f := range v.F {
		if f.Name != "$literal" {
			l = append(l, f.V)
		}
	}
	return l
}

// ownError is what is wrong with an expression by itself; OK, if nothing is.
func ownError(v api.Value) api.Errno {
	switch v.Kind {
	case api.Text:
		for i, name := range strings.Split(v.S, ".") {
			if i == 0 && !strings.HasPrefix(name, "$") {
				return api.OK
			}
			if i == 0 {
				name = name[1:]
			}
			if name == "" || strings.ContainsAny(name[:1], "$") || strings.ContainsRune(name, 0) || i == api.MaxPath {
				return api.ErrName
			}
		}
		return api.OK
	case api.Doc:
		dollars := 0
		for _, f := range v.F {
			dollars += strings.Count((f.Name + " ")[:1], "$")
		}
		if dollars > 0 && len(v.F) > 1 {
			return api.ErrQuery
		}
		if dollars == 0 || v.F[0].Name == "$literal" {
			return api.OK
		}
		many, ok := operators()[v.F[0].Name]
		given := 1
		if v.F[0].V.Kind == api.List {
			given = len(v.F[0].V.L)
		}
		if !ok || many >= 0 && many != given {
			return api.ErrQuery
		}
		return api.OK
	}
	if v.Kind <= api.Missing || v.Kind > api.Greatest {
		return api.ErrType
	}
	return api.OK
}

// firstError goes through the expressions in order; what the model says of Parse.
func firstError(v api.Value) api.Errno {
	for todo := row(v); len(todo) > 0; {
		x := todo[0]
		if e := ownError(x); e != api.OK {
			return e
		}
		todo = slices.Concat(partsOf(x), todo[1:])
	}
	return api.OK
}

// places are the expressions within v, itself too, which may be changed there.
func places(v *api.Value) []*api.Value {
	l := []*api.Value{v}
	for i := range v.F {
		if v.F[i].Name != "$literal" {
			l = append(l, places(&v.F[i].V)...)
		}
	}
	for i := range v.L {
		l = append(l, places(&v.L[i])...)
	}
	return l
}

// spoilt are expressions that may not be, or not where they are put.
func (c chance) spoilt() api.Value {
	return c.pick(row(text("$"), text("$a..b"), text("$$a"), missing, none(13), none(-1), doc(api.Field{Name: "$none", V: missing}), op("$eq", i32(1)), op("$not"), op("$cond", null, null),
		docs(is("a", i32(1)), is("$add", null)), docs(is("$literal", i32(1)), is("b", text("$"))), is("$", null), list(null, null), is("$size", list(null, missing)), text("a"), literal(missing)))
}

// TestReadingAgainstTheModel has expressions in which one to three are put in place of others, some with more than one error.
func TestReadingAgainstTheModel(t *testing.T) {
	c := chance{rand.New(rand.NewSource(11))}
	seen := map[api.Errno]int{}
	for range 40000 {
		v := bson.Copy(c.anything(1 + c.Intn(4)))
		if c.Intn(3) == 0 {
			v = list(i32(1), v, c.anything(2))
		}
		for range 1 + c.Intn(3) {
			l := places(&v)
			*l[c.Intn(len(l))] = c.spoilt()
		}
		if nodesOf(v) > api.MaxNodes {
			continue
		}
		want := firstError(v)
		x, e := expr.Parse(v)
		if e != want || (x == nil) != (e != api.OK) {
			t.Fatalf("Parse of %s: %v, want %v", show(v), e, want)
		}
		seen[e]++
	}
	for _, e := range []api.Errno{api.OK, api.ErrName, api.ErrQuery, api.ErrType} {
		if seen[e] < 3000 {
			t.Error(seen)
		}
	}
}
