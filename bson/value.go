package bson

import (
	"bytes"
	"slices"

	"aqueduct/api"
)

// Get answers the value of the field of that name, Missing where v has none.
func Get(v api.Value, name string) api.Value {
	if v.Kind != api.Doc {
		return api.Value{}
	}
	i := find(v.F, name)
	if i < 0 {
		return api.Value{}
	}
	return Copy(v.F[i].V)
}

// With answers v with x as its field of that name, in the place of the first one of that name or at the end.
func With(v api.Value, name string, x api.Value) api.Value {
	if x.Kind == api.Missing {
		return Without(v, name)
	}
	v = Copy(v)
	if v.Kind != api.Doc {
		return v
	}
	f := api.Field{Name: name, V: Copy(x)}
	if i := find(v.F, name); i >= 0 {
		v.F[i] = f
	} else {
		v.F = append(v.F, f)
	}
	return v
}

// Without answers v without its fields of that name.
func Without(v api.Value, name string) api.Value {
	v = Copy(v)
	if v.Kind == api.Doc {
		v.F = slices.DeleteFunc(v.F, func(f api.Field) bool { return f.Name == name })
	}
	return v
}

// Same tells whether two values are alike in all.
func Same(a, b api.Value) bool {
	return a.Kind == b.Kind && a.N == b.N && a.S == b.S && bytes.Equal(a.B, b.B) &&
		slices.EqualFunc(a.F, b.F, sameField) && slices.EqualFunc(a.L, b.L, Same)
}

func sameField(a, b api.Field) bool { return a.Name == b.Name && Same(a.V, b.V) }

// Copy answers v in new memory.
func Copy(v api.Value) api.Value {
	v.B = bytes.Clone(v.B)
	v.F = each(v.F, copyField)
	v.L = each(v.L, Copy)
	return v
}

func copyField(f api.Field) api.Field { return api.Field{Name: f.Name, V: Copy(f.V)} }

// each answers a new list of what f makes of the items; nil stays nil.
func each[T any](l []T, f func(T) T) []T {
	if l == nil {
		return nil
	}
	all := make([]T, len(l))
	for i, x := range l {
		all[i] = f(x)
	}
	return all
}
