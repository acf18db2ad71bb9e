package link_test

import (
	"fmt"
	"slices"
	"strings"

	"hawser/api"
	"hawser/link"
	"hawser/object"
)

// modelled is what Objects should answer, found by looking through all lists each time something is asked.
func modelled(l []object.Object) answer {
	if len(l) > 12 {
		return answer{why: api.ErrMany}
	}
	least := ""
	for k, o := range l {
		for _, p := range l[:k] {
			if o.Module == p.Module && (least == "" || o.Module < least) {
				least = o.Module
			}
		}
	}
	if least != "" {
		return answer{why: api.ErrTaken, wrong: link.Wrong{Module: least}}
	}
	in, ok := inOrder(l)
	if !ok {
		return answer{why: api.ErrCycle}
	}
	for _, ask := range []struct {
		why   api.Errno
		holds func(have, want api.Item, found bool) bool
	}{
		{api.ErrMissing, func(_, _ api.Item, found bool) bool { return found }},
		{api.ErrSignature, func(have, want api.Item, _ bool) bool { return told(have) == told(want) }},
	} {
		if w, ok := leastWrong(in, ask.holds); ok {
			return answer{why: ask.why, wrong: w}
		}
	}
	return together(in)
}

// inOrder takes, again and again, the least of those that need none that are left.
func inOrder(l []object.Object) ([]object.Object, bool) {
	left := slices.Clone(l)
	var out []object.Object
	for len(left) > 0 {
		next := -1
		for k, o := range left {
			waits := slices.ContainsFunc(left, func(p object.Object) bool {
				return p.Module != o.Module && slices.ContainsFunc(o.Symbols, func(s object.Symbol) bool { return s.Module == p.Module })
			})
			if !waits && (next < 0 || o.Module < left[next].Module) {
				next = k
			}
		}
		if next < 0 {
			return nil, false
		}
		out = append(out, left[next])
		left = slices.Delete(left, next, next+1)
	}
	return out, true
}

// offered is the item of that kind and name which a module has, if importer may ask for it.
func offered(l []object.Object, importer string, s object.Symbol) (api.Item, bool) {
	for _, o := range l {
		if o.Module != s.Module || importer != o.Module && !slices.Contains(o.Exports, s.Item.Name) {
			continue
		}
		items := slices.Clone(o.Types)
		for _, g := range o.Globals {
			items = append(items, constItem(g.Name, g.Type))
		}
		for _, f := range o.Funs {
			items = append(items, funItem(f.Name, "("+strings.Join(f.Params[f.Captures:], ",")+")"+f.Result))
		}
		for _, x := range items {
			if x.Kind == s.Item.Kind && x.Name == s.Item.Name {
				return x, true
			}
		}
	}
	return api.Item{}, false
}

// leastWrong goes through all symbols and keeps the least that is wrong.
func leastWrong(l []object.Object, holds func(have, want api.Item, found bool) bool) (link.Wrong, bool) {
	var wrongs [][]string
	for _, o := range l {
		for _, s := range o.Symbols {
			if o.Module == s.Module && s.Item.Name == "" {
				continue
			}
			if have, found := offered(l, o.Module, s); !holds(have, s.Item, found) {
				wrongs = append(wrongs, []string{o.Module, s.Module, s.Item.Name})
			}
		}
	}
	if len(wrongs) == 0 {
		return link.Wrong{}, false
	}
	w := slices.MinFunc(wrongs, slices.Compare[[]string])
	return link.Wrong{Importer: w[0], Module: w[1], Name: w[2]}, true
}

// together puts them behind one another, and numbers by where a name stands among all; functions without one go by their number.
func together(l []object.Object) answer {
	var a answer
	var types, globals, funs []string
	for _, o := range l {
		for _, x := range o.Types {
			types = append(types, o.Module+"."+x.Name)
			a.image.Types = append(a.image.Types, typeItem(o.Module+"."+x.Name, x.Cases...))
		}
		for _, g := range o.Globals {
			globals = append(globals, o.Module+"."+g.Name)
		}
		for k, f := range o.Funs {
			name := f.Name
			if name == "" {
				name = fmt.Sprint(k)
			}
			funs = append(funs, o.Module+"."+name)
		}
	}
	ofFun := func(o object.Object, n int) int {
		name := o.Funs[n].Name
		if name == "" {
			name = fmt.Sprint(n)
		}
		return slices.Index(funs, o.Module+"."+name)
	}
	for _, o := range l {
		for _, g := range o.Globals {
			a.image.Order = append(a.image.Order, len(a.image.Globals))
			a.image.Globals = append(a.image.Globals, link.Slot{Name: o.Module + "." + g.Name, Type: g.Type, Fun: ofFun(o, g.Fun)})
		}
		for n, f := range o.Funs {
			code := slices.Clone(f.Code)
			for _, r := range o.Relocs {
				if r.Fun != n {
					continue
				}
				s := o.Symbols[r.Sym]
				name := s.Module + "." + s.Item.Name
				if s.Item.Name == "" {
					name += s.Item.Type
				}
				number := slices.Index([][]string{1: types, 2: globals, 3: funs}[s.Item.Kind], name)
				code[r.At], code[r.At+1] = byte(number/256), byte(number%256)
				a.stats.Patched += 2
			}
			a.stats.Copied += len(code)
			a.image.Funs = append(a.image.Funs, link.Body{Params: len(f.Params), Captures: f.Captures, Locals: f.Locals, Code: code})
			if f.Name != "" && slices.Contains(o.Exports, f.Name) {
				a.image.Entries = append(a.image.Entries, link.Entry{Name: o.Module + "." + f.Name, Type: object.Sign(f), Fun: ofFun(o, n)})
			}
		}
	}
	slices.SortFunc(a.image.Entries, func(a, b link.Entry) int { return strings.Compare(a.Name, b.Name) })
	return a
}

// modelledRoots adds needs to roots until there are no more.
func modelledRoots(l []object.Object, roots []string) string {
	firstOf := func(name string) int {
		return slices.IndexFunc(l, func(o object.Object) bool { return o.Module == name })
	}
	names := slices.Clone(roots)
	for ahead := -1; ahead < len(names); {
		ahead = len(names)
		for _, name := range names[:ahead] {
			if k := firstOf(name); k >= 0 {
				for _, s := range l[k].Symbols {
					if !slices.Contains(names, s.Module) {
						names = append(names, s.Module)
					}
				}
			}
		}
	}
	slices.Sort(names)
	var out []object.Object
	for k, name := range names {
		at := firstOf(name)
		if at < 0 {
			return fmt.Sprintf("[] %v %s", api.ErrNone, name)
		}
		if k == 0 || names[k-1] != name {
			out = append(out, l[at])
		}
	}
	return fmt.Sprintf("%+v %v ", out, api.OK)
}
