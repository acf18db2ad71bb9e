package verify_test

import (
	"fmt"
	"math"
	"slices"
	"strings"
	"testing"

	"hawser/api"
	"hawser/object"
	"hawser/verify"
)

// roomy is a copy of a list with spare room behind it, which is filled with x.
func roomy[E any](l []E, x E) []E {
	room := append(slices.Clone(l), x, x, x)
	return room[:len(l)]
}

func roomyItem(x api.Item) api.Item {
	x.Cases = roomy(x.Cases, caseOf("Spare", "spare"))
	for k := range x.Cases {
		x.Cases[k].Fields = roomy(x.Cases[k].Fields, "spare")
	}
	return x
}

// roomyObject has spare room in each of its lists, and none of them is o's.
func roomyObject(o object.Object) object.Object {
	o.Types = roomy(o.Types, typeItem("Spare", caseOf("A")))
	for k := range o.Types {
		o.Types[k] = roomyItem(o.Types[k])
	}
	o.Texts = roomy(o.Texts, "q.Q")
	o.Globals = roomy(o.Globals, object.Global{Name: "spare", Type: "num"})
	o.Funs = roomy(o.Funs, object.Fun{Result: "q.Q"})
	for k := range o.Funs {
		o.Funs[k].Params = roomy(o.Funs[k].Params, "bytes")
		o.Funs[k].Code = roomy(o.Funs[k].Code, 15)
	}
	o.Exports = roomy(o.Exports, "spare")
	o.Symbols = roomy(o.Symbols, object.Symbol{Module: "spare", Item: constItem("c", "num")})
	for k := range o.Symbols {
		o.Symbols[k].Item = roomyItem(o.Symbols[k].Item)
	}
	o.Relocs = roomy(o.Relocs, object.Reloc{Fun: 1, At: 1})
	return o
}

func roomyIfaces(l []api.Iface) []api.Iface {
	l = roomy(l, api.Iface{Module: "spare"})
	for k := range l {
		l[k].Items = roomy(l[k].Items, constItem("spare", "num"))
		for n := range l[k].Items {
			l[k].Items[n] = roomyItem(l[k].Items[n])
		}
	}
	return l
}

func wholeItem(x api.Item) api.Item {
	x.Cases = slices.Clone(x.Cases[:cap(x.Cases)])
	for k, c := range x.Cases {
		x.Cases[k].Fields = c.Fields[:cap(c.Fields)]
	}
	return x
}

// whole tells an object and interfaces with the spare room of each of their lists.
func whole(o object.Object, l []api.Iface) string {
	o.Types = slices.Clone(o.Types[:cap(o.Types)])
	for k := range o.Types {
		o.Types[k] = wholeItem(o.Types[k])
	}
	o.Texts = o.Texts[:cap(o.Texts)]
	o.Globals = o.Globals[:cap(o.Globals)]
	o.Funs = slices.Clone(o.Funs[:cap(o.Funs)])
	for k, f := range o.Funs {
		o.Funs[k].Params = f.Params[:cap(f.Params)]
		o.Funs[k].Code = f.Code[:cap(f.Code)]
	}
	o.Exports = o.Exports[:cap(o.Exports)]
	o.Symbols = slices.Clone(o.Symbols[:cap(o.Symbols)])
	for k := range o.Symbols {
		o.Symbols[k].Item = wholeItem(o.Symbols[k].Item)
	}
	o.Relocs = o.Relocs[:cap(o.Relocs)]
	l = slices.Clone(l[:cap(l)])
	for k := range l {
		l[k].Items = slices.Clone(l[k].Items[:cap(l[k].Items)])
		for n := range l[k].Items {
			l[k].Items[n] = wholeItem(l[k].Items[n])
		}
	}
	return fmt.Sprintf("%+v %+v", o, l)
}

// answers tells what each call answers.
func answers(o object.Object, l []api.Iface) string {
	why, n, at := verify.Object(o, l)
	s := fmt.Sprintf("%d %d %d", why, n, at)
	for n := range o.Funs {
		why, at := verify.Fun(o, n)
		s += fmt.Sprintf(" %d %d", why, at)
	}
	return s
}

// R2, R4: what is handed in stands as it was, spare room too; the same again answers the same, and spare room tells nothing.
func TestUnchanged(t *testing.T) {
	t.Parallel()
	all := []object.Object{{}, {Module: "m"}, plain()}
	for _, f := range ordinaries() {
		all = append(all, scene(f))
	}
	for _, text := range []string{"", "!ret", "lit; ret", "load 9; ret", "push; zero 99", "call -; ret", "lit; push; lit; build 1 m.T; switch m.T a a; a: ret", times(49, "push") + "ret", "push; load 0; zero a; lit; a: ret"} {
		all = append(all, scene(of(text)))
	}
	for _, h := range objectHurts() {
		o := plain()
		h.turn(&o)
		all = append(all, o)
	}
	for k, o := range all {
		given, l := roomyObject(o), roomyIfaces(ifaces())
		ahead := whole(given, l)
		first := answers(given, l)
		if whole(given, l) != ahead {
			t.Errorf("object %d was changed", k)
		}
		if again := answers(given, l); again != first {
			t.Errorf("object %d: again %s, was %s", k, again, first)
		}
		if bare := answers(o, ifaces()); bare != first {
			t.Errorf("object %d: its spare room tells: %s, else %s", k, first, bare)
		}
	}
}

// R4: answers do not hang on the order in which a map is gone through.
func TestSameAgain(t *testing.T) {
	o := scene(of("load 1; switch m.T a b; a: push; lit; jump c; b: c: do len; load 0; zero d; store 3; lit; d: e: ret"))
	first := answers(o, ifaces())
	for range 50 {
		if again := answers(o, ifaces()); again != first {
			t.Fatalf("again %s, was %s", again, first)
		}
	}
}

// R4: nil and empty lists mean the same.
func TestEmptyLists(t *testing.T) {
	o := object.Object{Module: "m", Types: []api.Item{}, Texts: []string{}, Globals: []object.Global{}, Funs: []object.Fun{}, Exports: []string{}, Symbols: []object.Symbol{}, Relocs: []object.Reloc{}}
	if got, want := answers(o, []api.Iface{}), answers(object.Object{Module: "m"}, nil); got != want {
		t.Errorf("empty lists: %s, want %s", got, want)
	}
	within := func(cases []api.Case, fields, params []string, code []byte) object.Object {
		return object.Object{
			Module:  "m",
			Types:   []api.Item{typeItem("T", api.Case{Name: "A", Fields: fields})},
			Funs:    []object.Fun{{Name: "f", Params: params, Result: "num", Code: []byte{1, 2, 0, 15}}, {Params: params, Result: "num", Code: code}},
			Symbols: []object.Symbol{{Module: "m", Item: api.Item{Kind: api.Fun, Name: "f", Type: "()num", Cases: cases}}, {Module: "m", Item: typeItem("T", api.Case{Name: "A"})}},
		}
	}
	got, want := answers(within([]api.Case{}, []string{}, []string{}, []byte{}), nil), answers(within(nil, nil, nil, nil), nil)
	if got != want || got != "10 1 0 0 0 10 0" {
		t.Errorf("empty lists within: %s, want %s", got, want)
	}
}

// R1: all calls end, whatever is handed in.
func TestOddObjects(t *testing.T) {
	t.Parallel()
	some := []fn{
		of("call #2; close 1 #2; close 0 #5; ret"),
		of("close 255 #2; ret"),
		of("push; store 3; push; lit; build 1 m.T; switch m.T a b; a: global m.c; do len; ret; b: call m.g; do len; ret"),
		of("lit; close 1 #2; push; apply 1; call n.h; array 1 U; push; do at; switch n.U a b; a: push; ret; b: store 0; store 0; call m.k; ret"),
	}
	numbers := []int{0, 1, -1, 2, 5, 24, 25, 255, 256, 65536, 1 << 40, math.MaxInt, math.MinInt}
	end := func(o object.Object) {
		for n := -1; n <= len(o.Funs); n++ {
			verify.Fun(o, n)
		}
		verify.Object(o, ifaces())
		verify.Object(o, []api.Iface{{}, {Items: []api.Item{{}}}, {Module: "m"}, {Module: "n", Items: make([]api.Item, 100)}})
	}
	for _, f := range some {
		for k := range scene(f).Funs {
			for _, n := range numbers {
				for _, turn := range []func(f *object.Fun){
					func(f *object.Fun) { f.Locals = n },
					func(f *object.Fun) { f.Captures = n },
					func(f *object.Fun) { f.Params = slices.Repeat([]string{"num"}, max(0, min(n, 300))) },
					func(f *object.Fun) { f.Params, f.Result = []string{"", "x", "("}, "" },
					func(f *object.Fun) { f.Params, f.Locals = nil, n },
				} {
					o := scene(f)
					turn(&o.Funs[k])
					end(o)
				}
			}
		}
	}
	for _, f := range some {
		for k := range scene(f).Relocs {
			for _, n := range numbers {
				o := scene(f)
				o.Relocs[k].Sym = n
				end(o)
				o.Relocs[k].Fun = n
				end(o)
				o.Relocs[k].At = n
				end(o)
			}
		}
		for k := range scene(f).Symbols {
			for _, item := range []api.Item{{}, {Kind: api.Fun}, {Kind: api.Type}, {Kind: api.Const}, funItem("", "99"), funItem("", "-1"), funItem("", "x"), funItem("", "99999999999999999999"), funItem("f", "num"), funItem("f", "("), typeItem("T", caseOf("", strings.Split(strings.Repeat("num ", 300), " ")...)), {Kind: 99, Name: "x", Type: strings.Repeat("[", 1000)}} {
				o := scene(f)
				o.Symbols[k].Item = item
				end(o)
				o.Symbols[k].Module = ""
				end(o)
			}
		}
		o := scene(f)
		o.Texts = []string{"", "x", strings.Repeat("[", 100000), "num"}
		end(o)
		o.Texts, o.Symbols, o.Types, o.Globals = nil, nil, nil, nil
		end(o)
	}
	end(object.Object{})
	end(object.Object{Funs: make([]object.Fun, 100), Globals: make([]object.Global, 100), Relocs: make([]object.Reloc, 100000)})
	o := object.Object{Funs: []object.Fun{{Locals: 1 << 62, Params: slices.Repeat([]string{"num"}, 1000), Code: put("load 255; store 254; load 254; ret").code, Result: "num"}}}
	if why, at := verify.Fun(o, 0); why != api.OK || at != 0 {
		t.Errorf("more locals than can be: %v at %d", why, at)
	}
}
