package link

import (
	"slices"
	"strings"

	"hawser/api"
	"hawser/object"
)

// Roots: see the chapter.
func Roots(l []object.Object, roots []string) ([]object.Object, api.Errno, string) {
	places := placesOf(l)
	modules, missing := needed(l, places, roots)
	if len(missing) > 0 {
		return nil, api.ErrNone, strings.Clone(slices.Min(missing))
	}
	slices.Sort(modules)
	var out []object.Object
	for _, module := range modules {
		out = append(out, copyObject(l[places[module]]))
	}
	return out, api.OK, ""
}

// needed are the roots and what they need, each once: those of objects, and the others.
func needed(l []object.Object, places map[string]int, roots []string) (modules, missing []string) {
	met := make(map[string]int)
	open := slices.Clone(roots)
	for len(open) > 0 {
		last := len(open) - 1
		module := open[last]
		open = open[:last]
		met[module]++
		if met[module] > 1 {
			continue
		}
		k, ok := places[module]
		if !ok {
			missing = append(missing, module)
			continue
		}
		modules = append(modules, module)
		open = append(open, object.Imports(l[k])...)
	}
	return modules, missing
}
