package path

import (
	"aqueduct/api"
	"aqueduct/bson"
)

// Paths are followed in the value's own lists; only what is answered is copied. bson.Get would copy all that lies in a field, at each name again.

// Reach answers what an expression's path leads to.
func Reach(v api.Value, p []string) api.Value { return bson.Copy(reach(v, p)) }

func reach(v api.Value, p []string) api.Value {
	if len(p) == 0 {
		return v
	}
	switch v.Kind {
	case api.Doc:
		return reach(field(v, p[0]), p[1:])
	case api.List:
		return api.Value{Kind: api.List, L: reachItems(v.L, p)}
	}
	return api.Value{}
}

// reachItems follows p, which has names: in items that are neither Doc nor List it leads to nothing.
func reachItems(items []api.Value, p []string) []api.Value {
	var l []api.Value
	for _, item := range items {
		if x := reach(item, p); x.Kind != api.Missing {
			l = append(l, x)
		}
	}
	return l
}

// All answers what a query's path leads to: one value at least.
func All(v api.Value, p []string) []api.Value {
	l := appendAll(nil, v, p)
	for i, x := range l {
		l[i] = bson.Copy(x)
	}
	return l
}

// appendAll puts what p leads to behind l.
func appendAll(l []api.Value, v api.Value, p []string) []api.Value {
	if len(p) == 0 {
		return appendItself(l, v)
	}
	switch v.Kind {
	case api.Doc:
		if x := field(v, p[0]); x.Kind != api.Missing {
			return appendAll(l, x, p[1:])
		}
	case api.List:
		return appendItems(l, v.L, p)
	}
	return append(l, api.Value{})
}

func appendItself(l []api.Value, v api.Value) []api.Value {
	l = append(l, v)
	if v.Kind == api.List {
		l = append(l, v.L...)
	}
	return l
}

func appendItems(l, items []api.Value, p []string) []api.Value {
	ahead := len(l)
	for _, x := range items {
		if x.Kind == api.Doc {
			l = appendAll(l, x, p)
		}
	}
	if len(l) == ahead {
		l = append(l, api.Value{})
	}
	return l
}

// field answers a Doc's value of that name as it lies there, Missing where it has none.
func field(v api.Value, name string) api.Value {
	for i := range v.F {
		if v.F[i].Name == name {
			return v.F[i].V
		}
	}
	return api.Value{}
}
