package iface

import (
	"hawser/api"
	"hawser/wire"
)

const mostNumber = 65535 // of items, cases, fields, and of a Kind, in the bytes of an interface

// Encode: see the chapter.
func Encode(i api.Iface) ([]byte, api.Errno) {
	if why := Right(i); why != api.OK {
		return nil, why
	}
	w := wire.NewWriter()
	w.Text(i.Module)
	w.Number(uint64(len(i.Items)))
	for _, item := range i.Items {
		writeItem(w, item)
	}
	return w.Done(), api.OK
}

func writeItem(w *wire.Writer, item api.Item) {
	w.Number(uint64(item.Kind))
	w.Text(item.Name)
	if item.Kind != api.Type {
		w.Text(item.Type)
		return
	}
	w.Number(uint64(len(item.Cases)))
	for _, c := range item.Cases {
		w.Text(c.Name)
		w.Number(uint64(len(c.Fields)))
		for _, field := range c.Fields {
			w.Text(field)
		}
	}
}

// Decode: see the chapter.
func Decode(b []byte) (api.Iface, api.Errno, int) {
	r := wire.NewReader(b)
	var i api.Iface
	i.Module = r.Text(api.MaxName)
	i.Items = readList(r, readItem)
	if why, at := r.End(); why != api.OK {
		return api.Iface{}, why, at
	}
	if why := Right(i); why != api.OK {
		return api.Iface{}, why, 0
	}
	return i, api.OK, 0
}

// readList ends at a refusal, since a number may tell of far more than there are bytes.
func readList[E any](r *wire.Reader, read func(*wire.Reader) E) []E {
	var list []E
	for range r.Number(mostNumber) {
		one := read(r)
		if refused(r) {
			return nil
		}
		list = append(list, one)
	}
	return list
}

// refused does not count bytes that are left, since they may still be read.
func refused(r *wire.Reader) bool {
	why, _ := r.End()
	return why != api.OK && why != api.ErrTail
}

// readItem takes a Kind that is none as one that has a type: Right refuses it, but only where the Reader refuses nothing.
func readItem(r *wire.Reader) api.Item {
	var item api.Item
	item.Kind = int(r.Number(mostNumber))
	item.Name = r.Text(api.MaxName)
	if item.Kind == api.Type {
		item.Cases = readList(r, readCase)
	} else {
		item.Type = readType(r)
	}
	return item
}

func readCase(r *wire.Reader) api.Case {
	var c api.Case
	c.Name = r.Text(api.MaxName)
	c.Fields = readList(r, readType)
	return c
}

func readType(r *wire.Reader) string { return r.Text(api.MaxText) }
