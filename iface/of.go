package iface

import (
	"slices"
	"strings"

	"hawser/api"
	"hawser/types"
)

// Of: see the chapter.
func Of(m api.Module) (api.Iface, api.Errno) {
	i := api.Iface{Module: strings.Clone(m.Name)}
	for k, name := range m.Exports {
		item, ok := defined(m, name)
		if !ok {
			return api.Iface{}, api.ErrNone
		}
		if slices.Contains(m.Exports[:k], name) {
			return api.Iface{}, api.ErrTaken
		}
		i.Items = append(i.Items, item)
	}
	slices.SortFunc(i.Items, func(a, b api.Item) int { return strings.Compare(a.Name, b.Name) })
	if why := Right(i); why != api.OK {
		return api.Iface{}, why
	}
	return i, api.OK
}

// defined is what m defines by that name. If m does so more than once, a function counts ahead of a const, and the first ahead of the others.
func defined(m api.Module, name string) (api.Item, bool) {
	for _, def := range m.Funs {
		if def.Name == name {
			return api.Item{Kind: api.Fun, Name: strings.Clone(name), Type: functionType(def)}, true
		}
	}
	for _, def := range m.Consts {
		if def.Name == name {
			return api.Item{Kind: api.Const, Name: strings.Clone(name), Type: strings.Clone(def.Type)}, true
		}
	}
	for _, def := range m.Types {
		if def.Name == name {
			return api.Item{Kind: api.Type, Name: strings.Clone(name), Cases: copyCases(def.Cases)}, true
		}
	}
	return api.Item{}, false
}

func functionType(def api.FunDef) string {
	var params []string
	for _, param := range def.Params {
		params = append(params, param.Type)
	}
	return types.Func(params, def.Type)
}
