package link

import (
	"cmp"
	"slices"
	"strconv"
	"strings"

	"hawser/api"
	"hawser/object"
)

// image puts the objects behind one another.
func (all names) image(l []object.Object) (Image, Stats) {
	var i Image
	var stats Stats
	for _, o := range l {
		numbers := all.numbers(o, len(i.Funs))
		for _, t := range o.Types {
			i.Types = append(i.Types, typeAmongAll(o.Module, t))
		}
		for _, g := range o.Globals {
			i.Order = append(i.Order, len(i.Globals))
			i.Globals = append(i.Globals, Slot{Name: full(o.Module, g.Name), Type: strings.Clone(g.Type), Fun: len(i.Funs) + g.Fun})
		}
		i.Entries = append(i.Entries, all.entries(o)...)
		bodies, patched := bodiesOf(o, numbers)
		for _, b := range bodies {
			stats.Copied += len(b.Code)
		}
		stats.Patched += patched
		i.Funs = append(i.Funs, bodies...)
	}
	slices.SortFunc(i.Entries, func(a, b Entry) int { return cmp.Compare(a.Name, b.Name) })
	return i, stats
}

// numbers are those of o's symbols, whose own functions stand behind so many.
func (all names) numbers(o object.Object, ahead int) []int {
	var out []int
	for _, s := range o.Symbols {
		n := all[full(s.Module, s.Item.Name)].number
		if s.Item.Name == "" {
			own, _ := strconv.Atoi(s.Item.Type)
			n = ahead + own
		}
		out = append(out, n)
	}
	return out
}

func typeAmongAll(module string, t api.Item) api.Item {
	return api.Item{Kind: t.Kind, Name: full(module, t.Name), Type: strings.Clone(t.Type), Cases: copyCases(t.Cases)}
}

func (all names) entries(o object.Object) []Entry {
	var out []Entry
	for _, name := range o.Exports {
		name = full(o.Module, name)
		if x := all[name]; x.item.Kind == api.Fun {
			out = append(out, Entry{Name: name, Type: x.item.Type, Fun: x.number})
		}
	}
	return out
}

// bodiesOf answers, too, how many bytes it wrote over. Of relocations that object.Right doesn't let by it writes none.
func bodiesOf(o object.Object, numbers []int) ([]Body, int) {
	var out []Body
	for _, f := range o.Funs {
		out = append(out, Body{Params: len(f.Params), Captures: f.Captures, Locals: f.Locals, Code: copyOf(f.Code)})
	}
	patched := 0
	for _, r := range o.Relocs {
		if isIndex(r.Fun, len(out)) && isIndex(r.At, len(out[r.Fun].Code)-1) && isIndex(r.Sym, len(numbers)) {
			n := numbers[r.Sym]
			out[r.Fun].Code[r.At], out[r.Fun].Code[r.At+1] = byte(n>>8), byte(n)
			patched += 2
		}
	}
	return out, patched
}

func isIndex(n, length int) bool { return 0 <= n && n < length }
