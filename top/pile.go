package top

import (
	"bytes"
	"cmp"
)

// ranked is an item that is kept, with the count that tells which of those of one key came ahead.
type ranked struct {
	item Item
	came int
}

// compare answers -1 where a is ahead of b, 1 where it is behind.
func compare(a, b ranked) int {
	return cmp.Or(bytes.Compare(a.item.Key, b.item.Key), cmp.Compare(a.came, b.came))
}

// pile is a heap with the last one on top, as that is the one that leaves first.
type pile []ranked

func (p pile) Len() int           { return len(p) }
func (p pile) Less(i, j int) bool { return compare(p[i], p[j]) > 0 }
func (p pile) Swap(i, j int)      { p[i], p[j] = p[j], p[i] }

func (p *pile) Push(x any) {
	if r, ok := x.(ranked); ok {
		*p = append(*p, r)
	}
}

func (p *pile) Pop() any {
	last := len(*p) - 1
	r := (*p)[last]
	(*p)[last] = ranked{} // so that its bytes are held no more
	*p = (*p)[:last]
	return r
}
