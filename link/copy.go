package link

import (
	"strings"

	"hawser/api"
	"hawser/object"
)

// copyOf has no memory of the list's, and is nil where that is empty.
func copyOf[E any](l []E) []E { return append([]E(nil), l...) }

func copyTexts(l []string) []string {
	out := copyOf(l)
	for k, s := range l {
		out[k] = strings.Clone(s)
	}
	return out
}

func copyCases(l []api.Case) []api.Case {
	var out []api.Case
	for _, c := range l {
		out = append(out, api.Case{Name: strings.Clone(c.Name), Fields: copyTexts(c.Fields)})
	}
	return out
}

func copyItem(x api.Item) api.Item {
	return api.Item{Kind: x.Kind, Name: strings.Clone(x.Name), Type: strings.Clone(x.Type), Cases: copyCases(x.Cases)}
}

func copyObject(o object.Object) object.Object {
	out := object.Object{Module: strings.Clone(o.Module), Texts: copyTexts(o.Texts), Exports: copyTexts(o.Exports), Relocs: copyOf(o.Relocs)}
	for _, t := range o.Types {
		out.Types = append(out.Types, copyItem(t))
	}
	for _, g := range o.Globals {
		out.Globals = append(out.Globals, object.Global{Name: strings.Clone(g.Name), Type: strings.Clone(g.Type), Fun: g.Fun})
	}
	for _, f := range o.Funs {
		out.Funs = append(out.Funs, copyFun(f))
	}
	for _, s := range o.Symbols {
		out.Symbols = append(out.Symbols, object.Symbol{Module: strings.Clone(s.Module), Item: copyItem(s.Item)})
	}
	return out
}

func copyFun(f object.Fun) object.Fun {
	return object.Fun{Name: strings.Clone(f.Name), Params: copyTexts(f.Params), Captures: f.Captures, Result: strings.Clone(f.Result), Locals: f.Locals, Code: copyOf(f.Code)}
}
