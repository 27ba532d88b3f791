package bson

import (
	"bytes"
	"strconv"
	"unicode/utf8"

	"aqueduct/api"
)

// reader goes through a document's bytes from their beginning. An inner document's length is believed only where its fields end, so that the error that is told is the first one in the bytes.
type reader struct {
	b  []byte
	at int
}

// readingOf answers the method that reads a kind's value, a document that deep; nil, if that is no kind.
func readingOf(code byte) func(r *reader, depth int) (api.Value, api.Errno) {
	switch code {
	case doubleCode:
		return (*reader).double
	case textCode:
		return (*reader).text
	case docCode:
		return (*reader).doc
	case listCode:
		return (*reader).list
	case bytesCode:
		return (*reader).bytes
	case idCode:
		return (*reader).id
	case boolCode:
		return (*reader).bool
	case dateCode:
		return (*reader).date
	case nullCode:
		return (*reader).null
	case int32Code:
		return (*reader).int32
	case int64Code:
		return (*reader).int64
	case decimalCode:
		return (*reader).decimal
	case greatestCode:
		return (*reader).greatest
	case leastCode:
		return (*reader).least
	}
	return nil
}

// fields reads a document that deep; in a List the names are the numbers from 0 on.
func (r *reader) fields(depth int, numbered bool) ([]api.Field, api.Errno) {
	if depth > api.MaxDepth {
		return nil, api.ErrDeep
	}
	from := r.at
	n, e := r.length(leastDoc)
	if e != api.OK {
		return nil, e
	}
	if depth == 1 && n != len(r.b) {
		return nil, api.ErrForm
	}
	l, e := r.fieldsToTheirEnd(depth, numbered)
	if e != api.OK {
		return nil, e
	}
	if r.at-from != n {
		return nil, api.ErrForm
	}
	return l, api.OK
}

func (r *reader) fieldsToTheirEnd(depth int, numbered bool) ([]api.Field, api.Errno) {
	var l []api.Field
	var ahead names
	for {
		code, e := r.take(1)
		if e != api.OK {
			return nil, e
		}
		if code[0] == 0 {
			return l, api.OK
		}
		read := readingOf(code[0])
		if read == nil {
			return nil, api.ErrKind
		}
		name, e := r.name()
		if e != api.OK {
			return nil, e
		}
		if numbered && name != strconv.Itoa(len(l)) {
			return nil, api.ErrForm
		}
		if ahead.hold(l, name) {
			return nil, api.ErrTwice
		}
		v, e := read(r, depth+1)
		if e != api.OK {
			return nil, e
		}
		l = append(l, api.Field{Name: name, V: v})
	}
}

// name reads a name and the 0 behind it.
func (r *reader) name() (string, api.Errno) {
	n := bytes.IndexByte(r.b[r.at:], 0)
	if n < 0 {
		return "", api.ErrShort
	}
	b := r.b[r.at : r.at+n]
	r.at += n + 1
	if !utf8.Valid(b) {
		return "", api.ErrUtf8
	}
	if n > api.MaxName {
		return "", api.ErrName
	}
	return string(b), api.OK
}

// length reads a length that is not below least.
func (r *reader) length(least int) (int, api.Errno) {
	b, e := r.take(lengthSize)
	if e != api.OK {
		return 0, e
	}
	n := int(signed(b))
	if n < least {
		return 0, api.ErrForm
	}
	return n, api.OK
}

// take answers the next n bytes, which stay those of the reader.
func (r *reader) take(n int) ([]byte, api.Errno) {
	if n > len(r.b)-r.at {
		return nil, api.ErrShort
	}
	b := r.b[r.at : r.at+n]
	r.at += n
	return b, api.OK
}

// signed answers the number that up to 8 bytes are.
func signed(b []byte) int64 {
	var n uint64
	for i, c := range b {
		n |= uint64(c) << (8 * i)
	}
	free := 64 - 8*len(b)
	return int64(n<<free) >> free
}
