package sorter

import (
	"bytes"
	"slices"

	"aqueduct/api"
	"aqueduct/top"
)

const (
	headSize = 4  // bytes of a record ahead of the key: three of the key's length, one of what is nil
	ownSize  = 32 // what an item is charged with beside its bytes
)

// What a record says of lists that are nil: an item is brought as it was added, whether it was spilled or not.
const (
	nilKey  = 1
	nilData = 2
)

// record is an item's bytes as they stand on a tape: the head, the key, the data.
type record []byte

// pack answers an item's record, which shares no list with it.
func pack(x top.Item) record {
	n := len(x.Key)
	r := make(record, headSize, headSize+n+len(x.Data))
	r[0], r[1], r[2] = byte(n), byte(n>>8), byte(n>>16)
	if x.Key == nil {
		r[3] |= nilKey
	}
	if x.Data == nil {
		r[3] |= nilData
	}
	return append(append(r, x.Key...), x.Data...)
}

// end answers where the key ends.
func (r record) end() int { return headSize + int(r[0]) + int(r[1])<<8 + int(r[2])<<16 }

// isWhole tells whether a record that was read has all that its head tells of.
func (r record) isWhole() bool { return len(r) >= headSize && len(r) >= r.end() }

// key answers the key, in the record's memory.
func (r record) key() []byte { return r[headSize:r.end()] }

// charge answers what the item is charged with while it is held.
func (r record) charge() int { return ownSize + len(r) - headSize }

// item answers the item, which takes the record's memory over: its lists have no room that goes into each other.
func (r record) item() top.Item {
	x := top.Item{Key: r[headSize:r.end():r.end()], Data: r[r.end():]}
	if r[3]&nilKey != 0 {
		x.Key = nil
	}
	if r[3]&nilData != 0 {
		x.Data = nil
	}
	return x
}

// entry is an item that is held, with what was taken of the ledger for it.
type entry struct {
	record
	taken int
}

// purse asks the ledger.
type purse struct {
	take, fits, give func(int) bool
}

// hold has an item held. Where the ledger holds as much as it can, nothing was taken and nothing is given back later.
func (p purse) hold(r record) entry {
	n := r.charge()
	if !p.take(n) {
		n = 0
	}
	return entry{r, n}
}

// drop has an item held no more.
func (p purse) drop(x entry) { p.give(x.taken) }

// pile is items that are held, in the order in which they came, or sorted.
type pile []entry

// sort puts them in their order; those of one key stay as they came.
func (p pile) sort() {
	slices.SortStableFunc(p, func(a, b entry) int { return bytes.Compare(a.key(), b.key()) })
}

// next answers the first one, which leaves the pile.
func (p *pile) next() (entry, bool, api.Errno) {
	if len(*p) == 0 {
		return entry{}, false, api.OK
	}
	x := (*p)[0]
	(*p)[0] = entry{} // so that its bytes are held no more
	*p = (*p)[1:]
	return x, true, api.OK
}
