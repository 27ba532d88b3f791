package key

import (
	"strings"

	"aqueduct/api"
	"aqueduct/order"
)

// Ends are below all that may stand in their place, so that what is shorter is ahead.
const (
	listEnd = 0          // of fields and items: each of these begins with a mark
	textEnd = "\x00\x00" // of a text, of a name
	zero    = "\x00\x01" // a byte 0 within one
)

// classMark is the mark of Class 0: what is no kind is one below it, and still above listEnd.
const classMark = listEnd + 2

// numberSize is how many bytes a number has.
const numberSize = 8

// pen puts values behind each other.
type pen struct {
	b []byte
}

// value puts a value; false, where more documents and Lists than levels lie within each other.
func (p *pen) value(v api.Value, levels int) bool {
	p.mark(v.Kind)
	return p.behindMark(v, levels)
}

// mark puts what tells values of unlike Class apart.
func (p *pen) mark(kind int) {
	p.b = append(p.b, byte(classMark+order.Class(kind)))
}

// behindMark puts what tells values of one Class apart.
func (p *pen) behindMark(v api.Value, levels int) bool {
	switch v.Kind {
	case api.Int32, api.Int64, api.Bool, api.Date:
		p.signed(v.N)
	case api.Text:
		p.text(v.S)
	case api.Doc:
		return levels > 0 && p.fields(v.F, levels-1)
	case api.List:
		return levels > 0 && p.items(v.L, levels-1)
	case api.Bytes:
		p.number(uint64(len(v.B)))
		p.b = append(p.b, v.B...)
	case api.Id:
		p.text(string(v.B))
	}
	return true
}

// fields puts each value's mark ahead of the name, as documents go by Class first.
func (p *pen) fields(l []api.Field, levels int) bool {
	for _, f := range l {
		p.mark(f.V.Kind)
		p.text(f.Name)
		if !p.behindMark(f.V, levels) {
			return false
		}
	}
	p.b = append(p.b, listEnd)
	return true
}

func (p *pen) items(l []api.Value, levels int) bool {
	for _, v := range l {
		if !p.value(v, levels) {
			return false
		}
	}
	p.b = append(p.b, listEnd)
	return true
}

// text puts bytes, however many.
func (p *pen) text(s string) {
	p.b = append(p.b, strings.ReplaceAll(s, "\x00", zero)...)
	p.b = append(p.b, textEnd...)
}

// signed puts a number such that those below nought are ahead.
func (p *pen) signed(n int64) { p.number(uint64(n) ^ 1<<63) }

// number puts a number, its highest byte first.
func (p *pen) number(n uint64) {
	for i := range numberSize {
		p.b = append(p.b, byte(n>>(8*(numberSize-1-i))))
	}
}
