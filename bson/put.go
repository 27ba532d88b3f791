package bson

import (
	"strconv"

	"aqueduct/api"
)

// What is put here was asked by a meter: it may be.

// codeOf answers the kind as it stands in bytes, 0 of none.
func codeOf(kind int) byte {
	switch kind {
	case api.Least:
		return leastCode
	case api.Null:
		return nullCode
	case api.Int32:
		return int32Code
	case api.Int64:
		return int64Code
	case api.Text:
		return textCode
	case api.Doc:
		return docCode
	case api.List:
		return listCode
	case api.Bytes:
		return bytesCode
	case api.Id:
		return idCode
	case api.Bool:
		return boolCode
	case api.Date:
		return dateCode
	case api.Greatest:
		return greatestCode
	}
	return 0
}

// putDoc puts a document of those fields behind b.
func putDoc(b []byte, l []api.Field) []byte {
	from := len(b)
	b = putNumber(b, 0, lengthSize)
	for _, f := range l {
		b = putField(b, f.Name, f.V)
	}
	return closeDoc(b, from)
}

// putList puts a document whose names are the items' numbers.
func putList(b []byte, l []api.Value) []byte {
	from := len(b)
	b = putNumber(b, 0, lengthSize)
	for i, v := range l {
		b = putField(b, strconv.Itoa(i), v)
	}
	return closeDoc(b, from)
}

// closeDoc puts the 0 at the end of a document that begins there, and its length, which is known only now.
func closeDoc(b []byte, from int) []byte {
	b = append(b, 0)
	putNumber(b[:from], int64(len(b)-from), lengthSize)
	return b
}

func putField(b []byte, name string, v api.Value) []byte {
	b = append(b, codeOf(v.Kind))
	b = append(b, name...)
	b = append(b, 0)
	return putValue(b, v)
}

func putValue(b []byte, v api.Value) []byte {
	switch v.Kind {
	case api.Int32:
		return putNumber(b, v.N, int32Size)
	case api.Int64, api.Date:
		return putNumber(b, v.N, int64Size)
	case api.Bool:
		return putNumber(b, v.N, boolSize)
	case api.Text:
		b = putNumber(b, int64(len(v.S)+1), lengthSize)
		b = append(b, v.S...)
		return append(b, 0)
	case api.Bytes:
		b = putNumber(b, int64(len(v.B)), lengthSize)
		b = append(b, 0)
		return append(b, v.B...)
	case api.Id:
		return append(b, v.B...)
	case api.Doc:
		return putDoc(b, v.F)
	case api.List:
		return putList(b, v.L)
	}
	return b
}

// putNumber puts a number's n lowest bytes, the lowest first.
func putNumber(b []byte, x int64, n int) []byte {
	for i := range n {
		b = append(b, byte(x>>(8*i)))
	}
	return b
}
