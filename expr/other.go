package expr

import (
	"slices"
	"strings"

	"aqueduct/api"
)

// Operators of texts and Lists, and of all values.

func (c call) concat(d api.Value) (api.Value, api.Errno) {
	l, e := evalAll(c.terms, d)
	if e != api.OK {
		return api.Value{}, e
	}
	if slices.ContainsFunc(l, isNothing) {
		return api.Value{Kind: api.Null}, api.OK
	}
	return join(l)
}

// join asks what all are ahead of how long they are.
func join(l []api.Value) (api.Value, api.Errno) {
	var texts []string
	n := 0
	for _, v := range l {
		if v.Kind != api.Text {
			return api.Value{}, api.ErrType
		}
		texts = append(texts, v.S)
		n += len(v.S)
	}
	if n > api.MaxBytes {
		return api.Value{}, api.ErrLong
	}
	return api.Value{Kind: api.Text, S: strings.Join(texts, "")}, api.OK
}

func (c call) size(d api.Value) (api.Value, api.Errno) {
	v, e := c.terms[0].eval(d)
	if e != api.OK {
		return api.Value{}, e
	}
	if v.Kind != api.List {
		return api.Value{}, api.ErrType
	}
	return api.Value{Kind: api.Int32, N: int64(len(v.L))}, api.OK
}

func (c call) arrayElemAt(d api.Value) (api.Value, api.Errno) {
	l, e := evalAll(c.terms, d)
	if e != api.OK {
		return api.Value{}, e
	}
	if slices.ContainsFunc(l, isNothing) {
		return api.Value{Kind: api.Null}, api.OK
	}
	at := l[1]
	if l[0].Kind != api.List || at.Kind != api.Int32 && at.Kind != api.Int64 {
		return api.Value{}, api.ErrType
	}
	return item(l[0].L, at.N), api.OK
}

// item answers the item at n, from the end, where n is below 0; Missing beyond.
func item(l []api.Value, n int64) api.Value {
	many := int64(len(l))
	if n < 0 {
		n += many
	}
	if n < 0 || n >= many {
		return api.Value{}
	}
	return l[n]
}

func (c call) kind(d api.Value) (api.Value, api.Errno) {
	v, e := c.terms[0].eval(d)
	if e != api.OK {
		return api.Value{}, e
	}
	return api.Value{Kind: api.Text, S: NameOf(v.Kind)}, api.OK
}

// NameOf answers what a kind is called, nothing of what is no kind.
func NameOf(kind int) string {
	switch kind {
	case api.Missing:
		return "missing"
	case api.Least:
		return "minKey"
	case api.Null:
		return "null"
	case api.Int32:
		return "int"
	case api.Int64:
		return "long"
	case api.Text:
		return "string"
	case api.Doc:
		return "object"
	case api.List:
		return "array"
	case api.Bytes:
		return "binData"
	case api.Id:
		return "objectId"
	case api.Bool:
		return "bool"
	case api.Date:
		return "date"
	case api.Greatest:
		return "maxKey"
	}
	return ""
}
