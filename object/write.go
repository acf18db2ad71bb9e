package object

import (
	"hawser/api"
	"hawser/wire"
)

// Encode: see the chapter.
func Encode(o Object) ([]byte, api.Errno) {
	if why, _ := Right(o); why != api.OK {
		return nil, why
	}
	w := writer{wire.NewWriter()}
	w.object(o)
	b := w.Done()
	if len(b) > api.MaxObject {
		return nil, api.ErrLong
	}
	return b, api.OK
}

// writer has a method for each thing that an object has lists of, so that one function writes all lists, by method values.
type writer struct{ *wire.Writer }

func (w writer) object(o Object) {
	w.Text(o.Module)
	writeList(w, o.Types, w.item)
	writeList(w, o.Texts, w.Text)
	writeList(w, o.Globals, w.global)
	writeList(w, o.Funs, w.fun)
	writeList(w, o.Exports, w.Text)
	writeList(w, o.Symbols, w.symbol)
	writeList(w, o.Relocs, w.reloc)
}

func writeList[E any](w writer, list []E, write func(E)) {
	w.number(len(list))
	for _, one := range list {
		write(one)
	}
}

// number takes none below 0: there is none such in an object that Right lets by.
func (w writer) number(n int) { w.Number(uint64(n)) }

func (w writer) item(item api.Item) {
	w.number(item.Kind)
	w.Text(item.Name)
	if item.Kind == api.Type {
		writeList(w, item.Cases, w.oneCase)
	} else {
		w.Text(item.Type)
	}
}

func (w writer) oneCase(c api.Case) {
	w.Text(c.Name)
	writeList(w, c.Fields, w.Text)
}

func (w writer) global(g Global) {
	w.Text(g.Name)
	w.Text(g.Type)
	w.number(g.Fun)
}

func (w writer) fun(f Fun) {
	w.Text(f.Name)
	writeList(w, f.Params, w.Text)
	w.number(f.Captures)
	w.Text(f.Result)
	w.number(f.Locals)
	w.number(len(f.Code))
	w.Raw(f.Code)
}

func (w writer) symbol(s Symbol) {
	w.Text(s.Module)
	w.item(s.Item)
}

func (w writer) reloc(r Reloc) {
	w.number(r.Fun)
	w.number(r.At)
	w.number(r.Sym)
}
