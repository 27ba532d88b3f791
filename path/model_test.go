package path_test

import (
	"math/rand"
	"slices"
	"testing"

	"aqueduct/api"
	"aqueduct/bson"
	"aqueduct/path"
)

// random is a value of documents and Lists, some of which may not be.
func random(r *rand.Rand, depth int) api.Value {
	kind := r.Intn(8)
	if depth == 0 {
		kind = 7
	}
	v := api.Value{}
	switch kind {
	case 0, 1, 2, 3:
		v.Kind = api.Doc
		for range r.Intn(5) {
			v.F = append(v.F, api.Field{Name: []string{"a", "b", "c"}[r.Intn(3)], V: random(r, depth-1)})
		}
	case 4, 5, 6:
		v.Kind = api.List
		for range r.Intn(5) {
			v.L = append(v.L, random(r, depth-1))
		}
	default:
		v = append(plain(), missing)[r.Intn(len(plain())+1)]
	}
	return v
}

func randomPath(r *rand.Rand) []string {
	var p []string
	for range r.Intn(5) {
		p = append(p, []string{"a", "b", "c", "a", "b", "x"}[r.Intn(6)])
	}
	return p
}

// step is what one name leads to in an expression: of a path each name goes on where the one ahead led to.
func step(v api.Value, name string) api.Value {
	switch v.Kind {
	case api.Doc:
		return bson.Get(v, name)
	case api.List:
		l := list()
		for _, x := range v.L {
			if x.Kind == api.Doc || x.Kind == api.List {
				l.L = append(l.L, step(x, name))
			}
		}
		l.L = slices.DeleteFunc(l.L, func(x api.Value) bool { return x.Kind == api.Missing })
		return l
	}
	return missing
}

// spread is what one name of a query leads to from each of some values. (What is Missing stays: further names lead to it again.)
func spread(l []api.Value, name string) []api.Value {
	var all []api.Value
	for _, v := range l {
		if v.Kind != api.List {
			all = append(all, bson.Get(v, name))
			continue
		}
		inner := slices.DeleteFunc(bson.Copy(v).L, func(x api.Value) bool { return x.Kind != api.Doc })
		if len(inner) == 0 {
			all = append(all, missing)
		}
		for _, x := range inner {
			all = append(all, bson.Get(x, name))
		}
	}
	return all
}

func TestAgainstAModel(t *testing.T) {
	r := rand.New(rand.NewSource(6))
	found, none := 0, 0
	for range 10000 {
		v, p := random(r, 5), randomPath(r)
		reached, spreading := v, []api.Value{v}
		for _, name := range p {
			reached, spreading = step(reached, name), spread(spreading, name)
		}
		var all []api.Value
		for _, x := range spreading {
			all = append(all, x)
			if x.Kind == api.List {
				all = append(all, x.L...)
			}
		}
		wantReach(t, "the model", v, p, reached)
		wantAll(t, "the model", v, p, all...)
		if t.Failed() {
			t.Fatalf("of %v", v)
		}
		if len(p) > 1 && reached.Kind == api.Missing {
			none++
		} else if len(p) > 1 && len(all) > 2 {
			found++
		}
	}
	if found < 300 || none < 300 {
		t.Error(found, none)
	}
}

// TestAPathInTwoParts has the second part go on where the first one led to.
func TestAPathInTwoParts(t *testing.T) {
	r := rand.New(rand.NewSource(7))
	for range 2000 {
		v, p := random(r, 5), randomPath(r)
		for n := range p {
			if got, want := path.Reach(path.Reach(v, p[:n]), p[n:]), path.Reach(v, p); !bson.Same(got, want) {
				t.Fatalf("%v, %q in two parts: %v, want %v", v, p, got, want)
			}
		}
	}
}

// TestTouchAgainstAModel has all paths of two letters up to four names.
func TestTouchAgainstAModel(t *testing.T) {
	paths := [][]string{nil}
	for i := 0; i < len(paths) && len(paths[i]) < 4; i++ {
		paths = append(paths, append(slices.Clone(paths[i]), "a"), append(slices.Clone(paths[i]), "b"))
	}
	for _, a := range paths {
		for _, b := range paths {
			want := true
			for i := 0; i < len(a) && i < len(b); i++ {
				want = want && a[i] == b[i]
			}
			wantTouch(t, a, b, want)
		}
	}
}
