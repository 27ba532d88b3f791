package grouper

import "aqueduct/top"

const (
	stampSize  = 8 // bytes of a stamp: of the number that tells when an item came
	lengthSize = 3 // bytes of a key's length
)

// Signs of an item, a byte of them: lists that are nil are brought as they were added.
const (
	nilKey = 1 << iota
	nilData
	firstOne // of its group
)

// stamped answers an item for the sort by keys: its data are the stamp, the signs and the data.
func stamped(x top.Item, when uint64) top.Item {
	b := make([]byte, stampSize+1, stampSize+1+len(x.Data))
	for i := range stampSize {
		b[i] = byte(when >> (8 * (stampSize - 1 - i))) // the highest ahead: as bytes they go by number
	}
	if x.Data == nil {
		b[stampSize] = nilData
	}
	return top.Item{Key: x.Key, Data: append(b, x.Data...)}
}

// arrival is an item with its stamp.
type arrival struct {
	item  top.Item
	stamp []byte
}

// arrivalOf reads what stamped made; false: it is none.
func arrivalOf(y top.Item) (arrival, bool) {
	if len(y.Data) <= stampSize {
		return arrival{}, false
	}
	x := top.Item{Key: y.Key, Data: y.Data[stampSize+1:]}
	if y.Data[stampSize]&nilData != 0 {
		x.Data = nil
	}
	return arrival{x, y.Data[:stampSize]}, true
}

// member is an item in its group.
type member struct {
	item   top.Item
	begins bool // it is the first one
}

// after answers it for the sort by when the first item of its group came: its data are the signs, the key's length, the key and the data.
func (m member) after(stamp []byte) top.Item {
	n := len(m.item.Key)
	b := make([]byte, 0, 1+lengthSize+n+len(m.item.Data))
	b = append(b, m.signs(), byte(n), byte(n>>8), byte(n>>16))
	b = append(append(b, m.item.Key...), m.item.Data...)
	return top.Item{Key: stamp, Data: b}
}

func (m member) signs() byte {
	var s byte
	if m.item.Key == nil {
		s |= nilKey
	}
	if m.item.Data == nil {
		s |= nilData
	}
	if m.begins {
		s |= firstOne
	}
	return s
}

// memberOf reads what after made, and takes its memory over: the lists have no room that goes into each other. False: it is none.
func memberOf(y top.Item) (member, bool) {
	const head = 1 + lengthSize
	b := y.Data
	if len(b) < head {
		return member{}, false
	}
	end := head + int(b[1]) + int(b[2])<<8 + int(b[3])<<16
	if len(b) < end {
		return member{}, false
	}
	x := top.Item{Key: b[head:end:end], Data: b[end:]}
	if b[0]&nilKey != 0 {
		x.Key = nil
	}
	if b[0]&nilData != 0 {
		x.Data = nil
	}
	return member{x, b[0]&firstOne != 0}, true
}
