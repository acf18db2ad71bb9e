package object

import (
	"hawser/api"
	"hawser/wire"
)

const mostNumber = 65535 // in the bytes of an object

// Decode: see the chapter.
func Decode(b []byte) (Object, api.Errno, int) {
	if len(b) > api.MaxObject {
		return Object{}, api.ErrLong, 0
	}
	r := reader{wire.NewReader(b)}
	o := r.object()
	if why, at := r.End(); why != api.OK {
		return Object{}, why, at
	}
	if why, _ := Right(o); why != api.OK {
		return Object{}, why, 0
	}
	return o, api.OK, 0
}

// reader has a method for each that a writer has. Fields are read one by one, never two in one expression, so that the order of the bytes stands in the code.
type reader struct{ *wire.Reader }

func (r reader) object() Object {
	var o Object
	o.Module = r.name()
	o.Types = readList(r, r.item)
	o.Texts = readList(r, r.typeText)
	o.Globals = readList(r, r.global)
	o.Funs = readList(r, r.fun)
	o.Exports = readList(r, r.name)
	o.Symbols = readList(r, r.symbol)
	o.Relocs = readList(r, r.reloc)
	return o
}

// readList ends at a refusal, since a number may tell of far more than there are bytes.
func readList[E any](r reader, read func() E) []E {
	var list []E
	for range r.number() {
		one := read()
		if r.refused() {
			return nil
		}
		list = append(list, one)
	}
	return list
}

// refused does not count bytes that are left, since they may still be read.
func (r reader) refused() bool {
	why, _ := r.End()
	return why != api.OK && why != api.ErrTail
}

func (r reader) name() string { return r.Text(api.MaxName) }

func (r reader) typeText() string { return r.Text(api.MaxText) }

func (r reader) number() int { return int(r.Number(mostNumber)) }

// item takes a Kind that is none as one that has a type: Right refuses it, but only where the Reader refuses nothing.
func (r reader) item() api.Item {
	var item api.Item
	item.Kind = r.number()
	item.Name = r.name()
	if item.Kind == api.Type {
		item.Cases = readList(r, r.oneCase)
	} else {
		item.Type = r.typeText()
	}
	return item
}

func (r reader) oneCase() api.Case {
	var c api.Case
	c.Name = r.name()
	c.Fields = readList(r, r.typeText)
	return c
}

func (r reader) global() Global {
	var g Global
	g.Name = r.name()
	g.Type = r.typeText()
	g.Fun = r.number()
	return g
}

func (r reader) fun() Fun {
	var f Fun
	f.Name = r.name()
	f.Params = readList(r, r.typeText)
	f.Captures = r.number()
	f.Result = r.typeText()
	f.Locals = r.number()
	f.Code = r.Raw(r.number())
	return f
}

func (r reader) symbol() Symbol {
	var s Symbol
	s.Module = r.name()
	s.Item = r.item()
	return s
}

func (r reader) reloc() Reloc {
	var one Reloc
	one.Fun = r.number()
	one.At = r.number()
	one.Sym = r.number()
	return one
}
