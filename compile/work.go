package compile

import (
	"hawser/api"
	"hawser/iface"
	"hawser/lower"
	"hawser/object"
	"hawser/parse"
	"hawser/sema"
	"hawser/verify"
)

// refusal is the one that a call answers: at is a place in the source, or the number of an interface or of what is wrong in an object; within is a place in that one's bytes.
type refusal struct {
	why        api.Errno
	at, within int
	name       string
}

// work is one call's: what it was given, and what its steps made of that, each for those behind it.
type work struct {
	refusal
	source        string
	object, shown []byte // shown is what others see of the module
	ifaces        [][]byte
	others        []api.Iface // what ifaces tell
	module        api.Module
	made          object.Object
}

// do makes the steps up to the first one that refuses: no step need ask what became of those ahead of it.
func (w *work) do(steps ...func() refusal) {
	for _, step := range steps {
		w.refusal = step()
		if w.why != api.OK {
			return
		}
	}
}

func (w *work) parse() (r refusal) {
	w.module, r.why, r.at = parse.Module(w.source)
	return r
}

func (w *work) read() (r refusal) {
	w.made, r.why, r.within = object.Decode(w.object)
	return r
}

func (w *work) see() refusal {
	for k, b := range w.ifaces {
		one, why, _ := iface.Decode(b)
		if why != api.OK {
			return refusal{why: why, at: k}
		}
		w.others = append(w.others, one)
	}
	return refusal{}
}

func (w *work) judge() (r refusal) {
	r.why, r.at, r.name = sema.Module(w.module, w.others)
	return r
}

func (w *work) lower() (r refusal) {
	w.made, r.why = lower.Module(w.module, w.others)
	return r
}

func (w *work) write() (r refusal) {
	w.object, r.why = object.Encode(w.made)
	return r
}

// show is refused nothing: what a module exports was asked with its types.
func (w *work) show() (r refusal) {
	one, _ := iface.Of(w.module)
	w.shown, r.why = iface.Encode(one)
	return r
}

func (w *work) verify() (r refusal) {
	r.why, r.at, r.within = verify.Object(w.made, w.others)
	return r
}
