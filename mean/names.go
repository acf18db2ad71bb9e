package mean

import (
	"hawser/api"
	"hawser/scope"
)

// global is what a const or a function is now: a const nil, until it has a value.
type global struct{ now value }

// home is a module that runs, and what its names mean.
type home struct {
	consts  []api.ConstDef
	globals map[string]*global // by x, the imported ones by n.x
	cases   *scope.Scope
}

// settle makes the modules' homes, by name, in which no const has a value yet.
func (r *run) settle(l []api.Module, seen map[string]api.Iface) map[string]*home {
	homes := make(map[string]*home)
	for _, m := range l {
		names, _, _ := scope.New(m, imported(m, seen))
		homes[m.Name] = &home{consts: m.Consts, globals: make(map[string]*global), cases: names}
		r.define(m, homes[m.Name])
	}
	for _, m := range l {
		for _, one := range m.Imports {
			if g, ok := homes[one.From].globals[one.Name]; ok {
				homes[m.Name].globals[one.From+"."+one.Name] = g
			}
		}
	}
	return homes
}

func (r *run) define(m api.Module, h *home) {
	for _, def := range m.Consts {
		h.globals[def.Name] = &global{}
	}
	for k := range m.Funs {
		def := &m.Funs[k]
		h.globals[def.Name] = &global{now: r.closureOf(def.Params, &def.Body, place{home: h})}
	}
}

func (h *home) caseNumber(name string) int {
	_, n, _, _ := h.cases.Case(name)
	return n
}

// place is where an expression stands: the module, and the locals that are seen.
type place struct {
	home *home
	seen *local
}

// local is a name that is bound, and those that were bound ahead of it.
type local struct {
	name  string
	is    value
	ahead *local
}

func (p place) with(name string, v value) place { return place{p.home, &local{name, v, p.seen}} }

// find is the value of the last local of that name.
func (p place) find(name string) (value, bool) {
	for one := p.seen; one != nil; one = one.ahead {
		if one.name == name {
			return one.is, true
		}
	}
	return nil, false
}
