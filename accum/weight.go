package accum

import (
	"strconv"

	"aqueduct/api"
	"aqueduct/bson"
)

// aroundOne is what a document of one field of the empty name has beside the field's value.
const aroundOne = 7

// keep keeps v, and nothing else.
func (s *State) keep(v api.Value) {
	s.kept = bson.Copy(v)
	s.weight = max(sizeOfOne(v)-aroundOne, 0)
}

// sizeOfOne answers the Size of a document whose one field v is, 0 where it may not be.
func sizeOfOne(v api.Value) int {
	return bson.Size(api.Value{Kind: api.Doc, F: []api.Field{{V: v}}})
}

// growth answers by how many bytes a List grows by v as its item at that place, 0 where v may not be in it. It looks at v alone, so that what the List has already is not gone through for each item.
func growth(v api.Value, place int) int {
	n := sizeOfOne(api.Value{Kind: api.List, L: []api.Value{v}})
	if n == 0 {
		return 0
	}
	return n - sizeOfOne(emptyList()) - len(strconv.Itoa(0)) + len(strconv.Itoa(place))
}
