package bson

import (
	"unicode/utf8"

	"aqueduct/api"
)

// Each kind's own method is here: it reads a value, from behind the field's name on.

func (r *reader) doc(depth int) (api.Value, api.Errno) {
	l, e := r.fields(depth, false)
	if e != api.OK {
		return api.Value{}, e
	}
	return api.Value{Kind: api.Doc, F: l}, api.OK
}

func (r *reader) list(depth int) (api.Value, api.Errno) {
	l, e := r.fields(depth, true)
	if e != api.OK {
		return api.Value{}, e
	}
	v := api.Value{Kind: api.List}
	for _, f := range l {
		v.L = append(v.L, f.V)
	}
	return v, api.OK
}

func (r *reader) text(int) (api.Value, api.Errno) {
	n, e := r.length(leastText)
	if e != api.OK {
		return api.Value{}, e
	}
	b, e := r.take(n)
	if e != api.OK {
		return api.Value{}, e
	}
	text, end := b[:n-1], b[n-1]
	if end != 0 {
		return api.Value{}, api.ErrForm
	}
	if !utf8.Valid(text) {
		return api.Value{}, api.ErrUtf8
	}
	return api.Value{Kind: api.Text, S: string(text)}, api.OK
}

func (r *reader) bytes(int) (api.Value, api.Errno) {
	// Both must be there ahead of either being asked.
	b, e := r.take(lengthSize + 1)
	if e != api.OK {
		return api.Value{}, e
	}
	n, subtype := int(signed(b[:lengthSize])), b[lengthSize]
	if n < leastBytes || subtype != 0 {
		return api.Value{}, api.ErrForm
	}
	return r.raw(api.Bytes, n)
}

func (r *reader) id(int) (api.Value, api.Errno) { return r.raw(api.Id, idSize) }

func (r *reader) bool(int) (api.Value, api.Errno) {
	v, e := r.number(api.Bool, boolSize)
	if e == api.OK && v.N != 0 && v.N != 1 {
		return api.Value{}, api.ErrForm
	}
	return v, e
}

func (r *reader) date(int) (api.Value, api.Errno)  { return r.number(api.Date, int64Size) }
func (r *reader) int32(int) (api.Value, api.Errno) { return r.number(api.Int32, int32Size) }
func (r *reader) int64(int) (api.Value, api.Errno) { return r.number(api.Int64, int64Size) }

func (r *reader) double(int) (api.Value, api.Errno)  { return r.float(doubleSize) }
func (r *reader) decimal(int) (api.Value, api.Errno) { return r.float(decimalSize) }

func (r *reader) null(int) (api.Value, api.Errno)     { return api.Value{Kind: api.Null}, api.OK }
func (r *reader) least(int) (api.Value, api.Errno)    { return api.Value{Kind: api.Least}, api.OK }
func (r *reader) greatest(int) (api.Value, api.Errno) { return api.Value{Kind: api.Greatest}, api.OK }

// raw reads n bytes as they are.
func (r *reader) raw(kind, n int) (api.Value, api.Errno) {
	b, e := r.take(n)
	if e != api.OK {
		return api.Value{}, e
	}
	return api.Value{Kind: kind, B: append([]byte(nil), b...)}, api.OK
}

// number reads a number of n bytes.
func (r *reader) number(kind, n int) (api.Value, api.Errno) {
	b, e := r.take(n)
	if e != api.OK {
		return api.Value{}, e
	}
	return api.Value{Kind: kind, N: signed(b)}, api.OK
}

// float reads n bytes, and then refuses them.
func (r *reader) float(n int) (api.Value, api.Errno) {
	if _, e := r.take(n); e != api.OK {
		return api.Value{}, e
	}
	return api.Value{}, api.ErrFloat
}
