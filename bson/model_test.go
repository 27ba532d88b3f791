package bson_test

import (
	"bytes"
	"math/rand"
	"strconv"
	"strings"
	"testing"

	"aqueduct/api"
	"aqueduct/bson"
)

// TestTurnedBytes has every byte of a document be another one: it is told, or it is another document whose bytes these are.
func TestTurnedBytes(t *testing.T) {
	_, b := whole()
	b = b[:len(b):len(b)]
	for i := range b {
		old := b[i]
		for _, c := range []byte{0, 2, 4, 0x0a, 0x80, 0xff, old + 1, old - 1} {
			b[i] = c
			wantToldOrSame(t, b)
		}
		b[i] = old
	}
}

func wantToldOrSame(t *testing.T, b []byte) {
	t.Helper()
	v, e := bson.Decode(b)
	if e != api.OK {
		wantNoDoc(t, "told", b, e)
		return
	}
	wantBoth(t, "another document", v, b)
}

// maker lays out a document piece by piece, right or wrong, and knows the first thing that is wrong in it.
type maker struct {
	r     *rand.Rand
	b     []byte
	first api.Errno
	odds  int // one thing of so many is wrong
	reach int // so deep lies a document in the first field of each
	all   []sample
}

func (m *maker) wrong(e api.Errno) bool {
	if m.r.Intn(m.odds) > 0 {
		return false
	}
	if m.first == api.OK {
		m.first = e
	}
	return true
}

func (m *maker) put(parts ...[]byte) { m.b = append(m.b, join(parts...)...) }

// doc lays out a document that deep; only the outer one's length is asked at its beginning.
func (m *maker) doc(depth int, numbered bool) api.Value {
	if depth > api.MaxDepth && m.first == api.OK {
		m.first = api.ErrDeep
	}
	from := len(m.b)
	m.put(make([]byte, 4))
	off := 0
	if depth == 1 && m.wrong(api.ErrForm) {
		off = 1 - 2*m.r.Intn(2)
	}
	v := api.Value{Kind: api.Doc}
	if numbered {
		v.Kind = api.List
	}
	many := m.r.Intn(5)
	if depth < m.reach {
		many = max(many, 1)
	}
	for i := range many {
		f := m.field(i, depth, numbered)
		if numbered {
			v.L = append(v.L, f.V)
		} else {
			v.F = append(v.F, f)
		}
	}
	m.put([]byte{0})
	if depth > 1 && m.wrong(api.ErrForm) {
		off = 1 + m.r.Intn(9)
	}
	copy(m.b[from:], le(int64(len(m.b)-from+off), 4))
	return v
}

func (m *maker) field(i, depth int, numbered bool) api.Field {
	s := m.all[m.r.Intn(len(m.all))]
	code := s.code
	within := code == 0x03 || code == 0x04
	if i == 0 && depth < m.reach {
		within, code = true, byte(0x03+m.r.Intn(2))
	}
	if m.wrong(api.ErrKind) {
		code = 0x55
	}
	name := strconv.Itoa(i)
	if !numbered {
		name = []string{"", "b", "cc", "\u00e4", strings.Repeat("m", 119)}[i] + name
		if i == 0 {
			name = ""
		}
	}
	switch {
	case m.wrong(api.ErrUtf8):
		name = "\xc3" + name
	case m.wrong(api.ErrName):
		name = strings.Repeat("q", 117) + "\u20ac" + name + "x"
	case numbered && m.wrong(api.ErrForm):
		name += "0"
	case !numbered && i > 0 && m.wrong(api.ErrTwice):
		name = ""
	}
	m.put([]byte{code}, []byte(name), []byte{0})
	if within {
		return is(name, m.doc(depth+1, code == 0x04))
	}
	return is(name, m.value(s))
}

func (m *maker) value(s sample) api.Value {
	b := bytes.Clone(s.bytes)
	switch {
	case s.code == 0x02 && m.wrong(api.ErrForm):
		b[len(b)-1] = 'x'
	case s.code == 0x02 && len(b) > 5 && m.wrong(api.ErrUtf8):
		b[len(b)-2] = 0xff
	case s.code == 0x05 && m.wrong(api.ErrForm):
		b[4] = 0x80
	case s.code == 0x08 && m.wrong(api.ErrForm):
		b[0] = 2
	}
	m.put(b)
	return s.v
}

// TestMadeAtRandom has documents that are right, and such as have several things wrong.
func TestMadeAtRandom(t *testing.T) {
	told := map[api.Errno]int{}
	all := samples()
	for seed := range 10000 {
		m := maker{r: rand.New(rand.NewSource(int64(seed))), odds: []int{1 << 40, 300, 40, 8}[seed%4], all: all}
		m.reach = m.r.Intn(5)
		if m.r.Intn(8) == 0 {
			m.reach = api.MaxDepth - 2 + m.r.Intn(5)
		}
		v := m.doc(1, false)
		told[m.first]++
		switch {
		case len(m.b) > api.MaxBytes:
			wantNoDoc(t, "made at random", m.b, api.ErrLong)
		case m.first == api.OK:
			wantBoth(t, "made at random", v, m.b)
		default:
			wantNoDoc(t, "made at random, seed "+strconv.Itoa(seed), m.b, m.first)
		}
		if t.Failed() {
			return
		}
	}
	for _, e := range []api.Errno{api.OK, api.ErrKind, api.ErrUtf8, api.ErrName, api.ErrForm, api.ErrTwice, api.ErrDeep} {
		if told[e] < 50 {
			t.Errorf("%v was told %d times: %v", e, told[e], told)
		}
	}
}
