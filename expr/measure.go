package expr

import "aqueduct/api"

// meter counts a value and those within it. It goes no further than those that an expression may have, so that it ends soon however many values share one list.
type meter struct {
	nodes int
	deep  bool // a Doc or a List lies too deep
}

// Measure answers how many values v has, for what else has the limits of an expression, too. Too many are told ahead of one that lies too deep, wherever that is.
func Measure(v api.Value) (int, api.Errno) {
	var m meter
	if !m.count(v, 1) {
		return 0, api.ErrLong
	}
	if m.deep {
		return 0, api.ErrDeep
	}
	return m.nodes, api.OK
}

// count counts v, which lies that deep; false, where there are too many.
func (m *meter) count(v api.Value, depth int) bool {
	m.nodes++
	if m.nodes > api.MaxNodes || len(v.F) > api.MaxItems || len(v.L) > api.MaxItems {
		return false
	}
	if depth > api.MaxDepth && (v.Kind == api.Doc || v.Kind == api.List) {
		m.deep = true
	}
	for _, f := range v.F {
		if !m.count(f.V, depth+1) {
			return false
		}
	}
	for _, x := range v.L {
		if !m.count(x, depth+1) {
			return false
		}
	}
	return true
}
