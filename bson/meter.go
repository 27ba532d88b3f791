package bson

import (
	"strconv"
	"strings"
	"unicode/utf8"

	"aqueduct/api"
)

// meter adds up the bytes of a document, and refuses what Decode could not answer. It goes no further than the bytes that a document may have, so that it ends soon however many values share one list.
type meter struct {
	left int
}

// take tells whether there is room for n more bytes.
func (m *meter) take(n int) bool {
	if n > m.left {
		return false
	}
	m.left -= n
	return true
}

// value asks a value, a document that deep, without its kind and name.
func (m *meter) value(v api.Value, depth int) bool {
	if !bare(v) {
		return false
	}
	switch v.Kind {
	case api.Least, api.Null, api.Greatest:
		return true
	case api.Int32:
		return v.N == int64(int32(v.N)) && m.take(int32Size)
	case api.Int64, api.Date:
		return m.take(int64Size)
	case api.Bool:
		return (v.N == 0 || v.N == 1) && m.take(boolSize)
	case api.Text:
		return m.take(lengthSize+len(v.S)+1) && utf8.ValidString(v.S)
	case api.Bytes:
		return m.take(lengthSize + 1 + len(v.B))
	case api.Id:
		return len(v.B) == idSize && m.take(idSize)
	case api.Doc:
		return depth <= api.MaxDepth && m.take(leastDoc) && m.fields(v.F, depth)
	case api.List:
		return depth <= api.MaxDepth && m.take(leastDoc) && m.items(v.L, depth)
	}
	return false
}

func (m *meter) fields(l []api.Field, depth int) bool {
	var ahead names
	for i, f := range l {
		if !m.name(f.Name) || ahead.hold(l[:i], f.Name) || !m.value(f.V, depth+1) {
			return false
		}
	}
	return true
}

func (m *meter) items(l []api.Value, depth int) bool {
	for i, v := range l {
		if !m.name(strconv.Itoa(i)) || !m.value(v, depth+1) {
			return false
		}
	}
	return true
}

// name asks a field's name, with its kind and the 0 behind it.
func (m *meter) name(s string) bool {
	return len(s) <= api.MaxName && utf8.ValidString(s) && strings.IndexByte(s, 0) < 0 && m.take(1+len(s)+1)
}

// bare tells whether a value has nothing beside what its kind has.
func bare(v api.Value) bool {
	switch v.Kind {
	case api.Int32, api.Int64, api.Bool, api.Date:
		v.N = 0
	case api.Text:
		v.S = ""
	case api.Bytes, api.Id:
		v.B = nil
	case api.Doc:
		v.F = nil
	case api.List:
		v.L = nil
	}
	return v.N == 0 && v.S == "" && len(v.B) == 0 && len(v.F) == 0 && len(v.L) == 0
}
