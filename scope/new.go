package scope

import (
	"strings"

	"hawser/api"
	"hawser/iface"
	"hawser/types"
)

// New: see the chapter.
func New(m api.Module, l []api.Iface) (*Scope, api.Errno, string) {
	if name, ok := takenName(m); ok {
		return nil, api.ErrTaken, name
	}
	if importsItself(m) {
		return nil, api.ErrName, strings.Clone(m.Name)
	}
	s := &Scope{values: make(map[string]api.Item), types: make(map[string][]api.Case), cases: make(map[string]member)}
	s.define(m)
	if name, ok := s.bringIn(m.Imports, l); !ok {
		return nil, api.ErrNone, name
	}
	if t, ok := s.unknownType(m); ok {
		return nil, api.ErrType, t
	}
	if name, ok := longName(m); ok {
		return nil, api.ErrLong, name
	}
	return s, api.OK, ""
}

// takenName is the first name that m has twice among those that must differ.
func takenName(m api.Module) (string, bool) {
	for _, names := range [][]string{typeNames(m), caseNames(m), valueNames(m), importNames(m)} {
		if name, ok := firstTwice(names); ok {
			return name, true
		}
	}
	return "", false
}

// firstTwice is the first name that has stood ahead of it already.
func firstTwice(names []string) (string, bool) {
	times := make(map[string]int)
	for _, name := range names {
		times[name]++
		if times[name] == 2 {
			return strings.Clone(name), true
		}
	}
	return "", false
}

func typeNames(m api.Module) (names []string) {
	for _, def := range m.Types {
		names = append(names, def.Name)
	}
	return names
}

func caseNames(m api.Module) (names []string) {
	for _, def := range m.Types {
		for _, c := range def.Cases {
			names = append(names, c.Name)
		}
	}
	return names
}

func valueNames(m api.Module) (names []string) {
	for _, def := range m.Consts {
		names = append(names, def.Name)
	}
	for _, def := range m.Funs {
		names = append(names, def.Name)
	}
	return names
}

func importNames(m api.Module) (names []string) {
	for _, one := range m.Imports {
		names = append(names, fullName(one.From, one.Name))
	}
	return names
}

func fullName(module, name string) string { return module + "." + name }

func importsItself(m api.Module) bool {
	for _, one := range m.Imports {
		if one.From == m.Name {
			return true
		}
	}
	return false
}

// define adds what is m's own, in copies, since nothing of m may be kept.
func (s *Scope) define(m api.Module) {
	for _, def := range m.Types {
		s.addType(fullName(m.Name, def.Name), "", ownCases(def.Cases))
	}
	for _, def := range m.Consts {
		name := strings.Clone(def.Name)
		s.values[name] = api.Item{Kind: api.Const, Name: name, Type: strings.Clone(def.Type)}
	}
	for _, def := range m.Funs {
		name := strings.Clone(def.Name)
		s.values[name] = api.Item{Kind: api.Fun, Name: name, Type: functionType(def)}
	}
}

func ownCases(cases []api.Case) []api.Case {
	var out []api.Case
	for _, c := range cases {
		own := api.Case{Name: strings.Clone(c.Name)}
		for _, field := range c.Fields {
			own.Fields = append(own.Fields, strings.Clone(field))
		}
		out = append(out, own)
	}
	return out
}

func functionType(def api.FunDef) string {
	var params []string
	for _, param := range def.Params {
		params = append(params, param.Type)
	}
	return types.Func(params, def.Type)
}

// addType adds a type and its cases, whose names are told with what stands ahead of them. A case that is there stays, since the first type that has one counts.
func (s *Scope) addType(name, ahead string, cases []api.Case) {
	s.types[name] = cases
	for n, c := range cases {
		if _, ok := s.cases[ahead+c.Name]; !ok {
			s.cases[ahead+c.Name] = member{owner: name, number: n, what: c}
		}
	}
}

// bringIn adds what is imported, or tells the first name that no interface has. What Find answers may be kept.
func (s *Scope) bringIn(imports []api.Import, l []api.Iface) (string, bool) {
	places := firstPlaces(l)
	for _, one := range imports {
		name := fullName(one.From, one.Name)
		at, ok := places[one.From]
		if !ok {
			return name, false
		}
		item, ok := iface.Find(l[at], one.Name)
		if !ok {
			return name, false
		}
		if item.Kind == api.Type {
			s.addType(name, fullName(one.From, ""), item.Cases)
		} else {
			s.values[name] = item
		}
	}
	return "", true
}

// firstPlaces tells where the first interface of each module is.
func firstPlaces(l []api.Iface) map[string]int {
	places := make(map[string]int)
	for k, i := range l {
		if _, ok := places[i.Module]; !ok {
			places[i.Module] = k
		}
	}
	return places
}

// unknownType is the first type of a definition that is not Known.
func (s *Scope) unknownType(m api.Module) (string, bool) {
	for _, t := range definedTypes(m) {
		if !s.Known(t) {
			return strings.Clone(t), true
		}
	}
	return "", false
}

// definedTypes are the types that m's definitions name, in the order in which they are looked at; those within bodies are none of them.
func definedTypes(m api.Module) (list []string) {
	for _, def := range m.Types {
		for _, c := range def.Cases {
			list = append(list, c.Fields...)
		}
	}
	for _, def := range m.Consts {
		list = append(list, def.Type)
	}
	for _, def := range m.Funs {
		for _, param := range def.Params {
			list = append(list, param.Type)
		}
		list = append(list, def.Type)
	}
	return list
}

// longName is the first name of a const or function whose type is too long.
func longName(m api.Module) (string, bool) {
	for _, def := range m.Consts {
		if len(def.Type) > api.MaxText-2 {
			return strings.Clone(def.Name), true
		}
	}
	for _, def := range m.Funs {
		if len(functionType(def)) > api.MaxText {
			return strings.Clone(def.Name), true
		}
	}
	return "", false
}
