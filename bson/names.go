package bson

import "aqueduct/api"

// few is how many names are gone through one by one; of more a map is asked, so that a document of many fields takes no long time.
const few = 16

// names are those of the fields ahead of one, none of them twice.
type names struct {
	all map[string]struct{}
}

// hold tells whether the name is that of one of the fields ahead, which are those of the call before and more.
func (n *names) hold(ahead []api.Field, name string) bool {
	if len(ahead) <= few {
		return find(ahead, name) >= 0
	}
	if n.all == nil {
		n.all = map[string]struct{}{}
	}
	for _, f := range ahead[len(n.all):] {
		n.all[f.Name] = struct{}{}
	}
	_, ok := n.all[name]
	return ok
}

// find answers the place of the first field of that name, -1 where there is none.
func find(l []api.Field, name string) int {
	for i, f := range l {
		if f.Name == name {
			return i
		}
	}
	return -1
}
