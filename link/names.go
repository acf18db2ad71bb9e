package link

import (
	"cmp"
	"slices"
	"strings"

	"hawser/api"
	"hawser/iface"
	"hawser/object"
)

// had is an item in the form in which others show what they have, with its number among all of its kind.
type had struct {
	item    api.Item
	number  int
	isShown bool
}

// names has what the modules have, by full names. Nobody asks for a function without a name.
type names map[string]had

func full(module, name string) string { return module + "." + name }

// namesOf counts as image puts them: module behind module, each list as it stands.
func namesOf(l []object.Object) names {
	all := make(names)
	types, globals, funs := 0, 0, 0
	for _, o := range l {
		for _, t := range o.Types {
			all[full(o.Module, t.Name)] = had{item: t, number: types}
			types++
		}
		for _, g := range o.Globals {
			all[full(o.Module, g.Name)] = had{item: api.Item{Kind: api.Const, Name: g.Name, Type: g.Type}, number: globals}
			globals++
		}
		for _, f := range o.Funs {
			all[full(o.Module, f.Name)] = had{item: api.Item{Kind: api.Fun, Name: f.Name, Type: object.Sign(f)}, number: funs}
			funs++
		}
		for _, name := range o.Exports {
			x := all[full(o.Module, name)]
			x.isShown = true
			all[full(o.Module, name)] = x
		}
	}
	return all
}

// asked is a symbol with whoever asks for it.
type asked struct {
	importer string
	object.Symbol
}

func (a asked) full() string { return full(a.Module, a.Item.Name) }

func (a asked) wrong() Wrong {
	return Wrong{Importer: strings.Clone(a.importer), Module: strings.Clone(a.Module), Name: strings.Clone(a.Item.Name)}
}

// sorted are all symbols with a name, those of the least importer first, then of the least module, then of the least name.
func sorted(l []object.Object) []asked {
	var all []asked
	for _, o := range l {
		for _, s := range o.Symbols {
			if s.Item.Name != "" {
				all = append(all, asked{o.Module, s})
			}
		}
	}
	slices.SortFunc(all, func(a, b asked) int {
		return cmp.Or(cmp.Compare(a.importer, b.importer), cmp.Compare(a.Module, b.Module), cmp.Compare(a.Item.Name, b.Item.Name))
	})
	return all
}

// check asks whether all is there ahead of asking whether it is the same.
func (all names) check(l []object.Object) (api.Errno, Wrong) {
	symbols := sorted(l)
	for _, a := range symbols {
		if !all.has(a) {
			return api.ErrMissing, a.wrong()
		}
	}
	for _, a := range symbols {
		if !iface.Same(all[a.full()].item, a.Item) {
			return api.ErrSignature, a.wrong()
		}
	}
	return api.OK, Wrong{}
}

// has: what is not exported only its own module has.
func (all names) has(a asked) bool {
	x := all[a.full()]
	return x.item.Kind == a.Item.Kind && (x.isShown || a.Module == a.importer)
}
