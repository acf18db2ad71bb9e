package scope_test

import (
	"fmt"
	"slices"
	"strings"

	"hawser/api"
	"hawser/types"
)

// The model: P8.1 and P8.2 told once more, by all faults at once, and by looking through the module and the interfaces for each name.

// fault is a refusal, and where it stands among all that could be: by step and by place.
type fault struct {
	rank []int
	why  api.Errno
	name string
}

// newByFaults gathers all that is wrong with a module, and takes the first.
func newByFaults(m api.Module, l []api.Iface) (api.Errno, string) {
	var faults []fault
	note := func(is bool, why api.Errno, name string, rank ...int) {
		if is {
			faults = append(faults, fault{rank, why, name})
		}
	}
	var kinds [4][]string
	for _, def := range m.Types {
		kinds[0] = append(kinds[0], def.Name)
		for _, c := range def.Cases {
			kinds[1] = append(kinds[1], c.Name)
		}
	}
	for _, def := range m.Consts {
		kinds[2] = append(kinds[2], def.Name)
	}
	for _, def := range m.Funs {
		kinds[2] = append(kinds[2], def.Name)
	}
	for k, one := range m.Imports {
		name := one.From + "." + one.Name
		kinds[3] = append(kinds[3], name)
		_, has := imported(l, one)
		note(one.From == m.Name, api.ErrName, m.Name, 4, k)
		note(!has, api.ErrNone, name, 5, k)
	}
	for step, names := range kinds {
		for k, name := range names {
			note(slices.Index(names, name) < k, api.ErrTaken, name, step, k)
		}
	}
	noteTypes(m, l, note)
	if len(faults) == 0 {
		return api.OK, ""
	}
	first := slices.MinFunc(faults, func(a, b fault) int { return slices.Compare(a.rank, b.rank) })
	return first.why, first.name
}

// noteTypes notes types that are not Known, then those that are too long.
func noteTypes(m api.Module, l []api.Iface, note func(is bool, why api.Errno, name string, rank ...int)) {
	for a, def := range m.Types {
		for b, c := range def.Cases {
			for n, field := range c.Fields {
				note(!knownByScan(m, l, field), api.ErrType, field, 6, a, b, n)
			}
		}
	}
	for k, def := range m.Consts {
		note(!knownByScan(m, l, def.Type), api.ErrType, def.Type, 7, k)
		note(len(def.Type) > 198, api.ErrLong, def.Name, 9, k)
	}
	for k, def := range m.Funs {
		for n, param := range def.Params {
			note(!knownByScan(m, l, param.Type), api.ErrType, param.Type, 8, k, n)
		}
		note(!knownByScan(m, l, def.Type), api.ErrType, def.Type, 8, k, len(def.Params))
		note(len(writtenType(def)) > 200, api.ErrLong, def.Name, 10, k)
	}
}

func writtenType(def api.FunDef) string {
	s := ""
	for _, param := range def.Params {
		s += "," + param.Type
	}
	return "(" + strings.TrimPrefix(s, ",") + ")" + def.Type
}

func imported(l []api.Iface, one api.Import) (api.Item, bool) {
	at := slices.IndexFunc(l, func(i api.Iface) bool { return i.Module == one.From })
	if at < 0 {
		return api.Item{}, false
	}
	n := slices.IndexFunc(l[at].Items, func(x api.Item) bool { return x.Name == one.Name })
	if n < 0 {
		return api.Item{}, false
	}
	return l[at].Items[n], true
}

func valueByScan(m api.Module, l []api.Iface, name string) (api.Item, bool) {
	from, rest, dot := strings.Cut(name, ".")
	if dot {
		one := api.Import{From: from, Name: rest}
		x, ok := imported(l, one)
		if !ok || x.Kind == api.Type || !slices.Contains(m.Imports, one) {
			return api.Item{}, false
		}
		return x, true
	}
	for _, def := range m.Consts {
		if def.Name == name {
			return api.Item{Kind: api.Const, Name: name, Type: def.Type}, true
		}
	}
	for _, def := range m.Funs {
		if def.Name == name {
			return api.Item{Kind: api.Fun, Name: name, Type: writtenType(def)}, true
		}
	}
	return api.Item{}, false
}

func casesByScan(m api.Module, l []api.Iface, t string) ([]api.Case, bool) {
	module, name, _ := strings.Cut(t, ".")
	for _, def := range m.Types {
		if module == m.Name && name == def.Name {
			return def.Cases, true
		}
	}
	for _, one := range m.Imports {
		if x, ok := imported(l, one); ok && x.Kind == api.Type && one == (api.Import{From: module, Name: name}) {
			return x.Cases, true
		}
	}
	return nil, false
}

// caseByScan looks through the types that may have the case, in their order.
func caseByScan(m api.Module, l []api.Iface, name string) (string, int, api.Case, bool) {
	from, rest, dot := strings.Cut(name, ".")
	var owners []string
	if dot {
		for _, one := range m.Imports {
			if one.From == from {
				owners = append(owners, from+"."+one.Name)
			}
		}
	} else {
		rest = name
		for _, def := range m.Types {
			owners = append(owners, m.Name+"."+def.Name)
		}
	}
	for _, owner := range owners {
		cases, _ := casesByScan(m, l, owner)
		if n := slices.IndexFunc(cases, func(c api.Case) bool { return c.Name == rest }); n >= 0 {
			return owner, n, cases[n], true
		}
	}
	return "", 0, api.Case{}, false
}

func knownByScan(m api.Module, l []api.Iface, t string) bool {
	return types.Right(t) && !slices.ContainsFunc(types.Names(t), func(name string) bool {
		_, ok := casesByScan(m, l, name)
		return !ok
	})
}

func toldItem(x api.Item) string {
	return fmt.Sprintf("{%d %q %q%s}", x.Kind, x.Name, x.Type, toldCases(x.Cases))
}

func toldCase(c api.Case) string { return fmt.Sprintf("%q%q", c.Name, c.Fields) }

func toldCases(cases []api.Case) (s string) {
	for _, c := range cases {
		s += " " + toldCase(c)
	}
	return s
}
