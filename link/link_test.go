package link_test

import (
	"fmt"
	"iter"
	"slices"
	"testing"

	"hawser/api"
	"hawser/link"
	"hawser/object"
)

func caseOf(name string, fields ...string) api.Case { return api.Case{Name: name, Fields: fields} }

func typeItem(name string, cases ...api.Case) api.Item {
	return api.Item{Kind: api.Type, Name: name, Cases: cases}
}

func constItem(name, of string) api.Item { return api.Item{Kind: api.Const, Name: name, Type: of} }

func funItem(name, of string) api.Item { return api.Item{Kind: api.Fun, Name: name, Type: of} }

// part is what one of the lists of an object gets.
type part func(o *object.Object)

func made(module string, parts ...part) object.Object {
	o := object.Object{Module: module}
	for _, p := range parts {
		p(&o)
	}
	return o
}

func types(items ...api.Item) part {
	return func(o *object.Object) { o.Types = append(o.Types, items...) }
}

func global(name, of string, fun int) part {
	return func(o *object.Object) {
		o.Globals = append(o.Globals, object.Global{Name: name, Type: of, Fun: fun})
	}
}

// fun has that code, gives a number, and takes what is named.
func fun(name, code string, params ...string) part {
	return func(o *object.Object) {
		o.Funs = append(o.Funs, object.Fun{Name: name, Params: params, Result: "num", Locals: len(params), Code: []byte(code)})
	}
}

// funs each give a number, take nothing and have no code.
func funs(names ...string) part {
	return func(o *object.Object) {
		for _, name := range names {
			fun(name, "")(o)
		}
	}
}

func exports(names ...string) part {
	return func(o *object.Object) { o.Exports = append(o.Exports, names...) }
}

func needs(module string, items ...api.Item) part {
	return func(o *object.Object) {
		for _, item := range items {
			o.Symbols = append(o.Symbols, object.Symbol{Module: module, Item: item})
		}
	}
}

func reloc(fun, at, sym int) part {
	return func(o *object.Object) { o.Relocs = append(o.Relocs, object.Reloc{Fun: fun, At: at, Sym: sym}) }
}

// shows is a module that exports functions of these names.
func shows(module string, names ...string) object.Object {
	return made(module, funs(names...), exports(names...))
}

// answer is all that Objects answers.
type answer struct {
	image link.Image
	stats link.Stats
	why   api.Errno
	wrong link.Wrong
}

func linked(l []object.Object) answer {
	i, stats, why, wrong := link.Objects(l)
	return answer{i, stats, why, wrong}
}

// told: nil and empty lists are told alike.
func told(x any) string { return fmt.Sprintf("%+v", x) }

// wantRight: a test is of objects that object.Right lets by.
func wantRight(t testing.TB, l []object.Object) {
	t.Helper()
	for _, o := range l {
		if why, n := object.Right(o); why != api.OK {
			t.Fatalf("object %s: %v, %d: %+v", o.Module, why, n, o)
		}
	}
}

// orders are those that the elements of a list may stand in: all of them, if they are six or fewer, else some.
func orders[E any](l []E) iter.Seq[[]E] {
	return func(yield func([]E) bool) {
		if len(l) > 6 {
			turned := slices.Clone(l)
			slices.Reverse(turned)
			for k := range l {
				if !yield(slices.Concat(l[k:], l[:k])) || !yield(slices.Concat(turned[k:], turned[:k])) {
					return
				}
			}
			return
		}
		permute(slices.Clone(l), 0, yield)
	}
}

func permute[E any](l []E, from int, yield func([]E) bool) bool {
	if from >= len(l)-1 {
		return yield(slices.Clone(l))
	}
	for k := from; k < len(l); k++ {
		l[from], l[k] = l[k], l[from]
		if !permute(l, from+1, yield) {
			return false
		}
		l[from], l[k] = l[k], l[from]
	}
	return true
}

// wantAnswer: so it is in whatever order the objects come, and their symbols.
func wantAnswer(t testing.TB, what string, l []object.Object, want answer) {
	t.Helper()
	wantRight(t, l)
	for x := range orders(l) {
		if got := linked(x); told(got) != told(want) {
			t.Errorf("%s: %.1000s, want %.1000s", what, told(got), told(want))
			return
		}
	}
}

func wantRefused(t testing.TB, what string, l []object.Object, why api.Errno, wrong link.Wrong) {
	t.Helper()
	wantAnswer(t, what, l, answer{why: why, wrong: wrong})
}

// wantLinked also answers what came of it.
func wantLinked(t testing.TB, what string, l []object.Object) answer {
	t.Helper()
	wantRight(t, l)
	first := linked(l)
	if first.why != api.OK || first.wrong != (link.Wrong{}) {
		t.Errorf("%s: %v, %+v", what, first.why, first.wrong)
		return first
	}
	wantAnswer(t, what, l, first)
	return first
}

// The chapter's runs.
func TestRuns(t *testing.T) {
	for _, none := range [][]object.Object{nil, {}} {
		if got := linked(none); told(got) != told(answer{}) {
			t.Errorf("Objects(none): %s", told(got))
		}
	}
	one, other := made("a", funs("f"), exports("f"), needs("b", funItem("g", "()num"))), made("b", funs("g"), exports("g"), needs("a", funItem("f", "()num")))
	wantRefused(t, "two that import one another", []object.Object{one, other}, api.ErrCycle, link.Wrong{})
}

// The chapter's examples.
func TestExamples(t *testing.T) {
	x := needs("b", funItem("x", "()num"))
	wantRefused(t, "a missing name of two importers", []object.Object{shows("b", "f"), made("d", x), made("c", x)}, api.ErrMissing, link.Wrong{Importer: "c", Module: "b", Name: "x"})
	for _, l := range [][]object.Object{nil, {}, {shows("a")}, {made("c", x)}, {made("c", x), made("c", x)}} {
		for _, none := range [][]string{nil, {}} {
			if got, why, name := link.Roots(l, none); len(got) != 0 || why != api.OK || name != "" {
				t.Errorf("Roots(%s, none): %s, %v, %q", told(l), told(got), why, name)
			}
		}
	}
}
