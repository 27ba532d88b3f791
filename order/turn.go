package order

import (
	"slices"

	"aqueduct/api"
	"aqueduct/bson"
)

// turn tells whether values are compared the other way round. Its compare is handed on as a method value to who needs a comparison.
type turn bool

func (t turn) compare(a, b api.Value) int {
	n := Compare(a, b)
	if t {
		return -n
	}
	return n
}

// By compares two rows, item by item.
func By(a, b []api.Value, down []bool) int {
	for i := range max(len(a), len(b)) {
		t := turn(i < len(down) && down[i])
		if n := t.compare(item(a, i), item(b, i)); n != 0 {
			return n
		}
	}
	return 0
}

// item answers a row's item, Missing beyond its end.
func item(row []api.Value, i int) api.Value {
	if i < len(row) {
		return row[i]
	}
	return api.Value{}
}

// Cut answers what v is sorted by.
func Cut(v api.Value, down bool) api.Value {
	return bson.Copy(cut(v, turn(down).compare))
}

// cut answers the first of a List's items that are the least by compare.
func cut(v api.Value, compare func(a, b api.Value) int) api.Value {
	if v.Kind != api.List {
		return v
	}
	if len(v.L) == 0 {
		return api.Value{}
	}
	return slices.MinFunc(v.L, compare)
}
