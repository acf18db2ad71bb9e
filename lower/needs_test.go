package lower_test

import (
	"slices"
	"strings"
	"testing"

	"hawser/api"
	"hawser/capture"
	"hawser/lower"
	"hawser/parse"
	"hawser/scope"
	"hawser/sema"
	"hawser/wire"
)

// needs is what a module's object has to have of each kind, told once more from its expressions: of locals, stack and code what the function needs that needs most.
type needs struct {
	locals, funs, symbols, texts, relocs, stack, code int
	whole                                             int // bytes of all code, and of types: the object has some more
}

// needing goes through one module.
type needing struct {
	needs
	m     api.Module
	names *scope.Scope
	named map[string]int // own names that the code names, each once
	code  int            // of the function whose turn it is
}

func needsOf(m api.Module, l []api.Iface) needs {
	names, _, _ := scope.New(m, l)
	n := needing{m: m, names: names, named: map[string]int{}}
	for _, def := range m.Consts {
		n.function(nil, nil, def.Body)
		n.whole += len(def.Type)
	}
	for _, def := range m.Funs {
		n.function(nil, def.Params, def.Body)
		n.whole += len(def.Type)
	}
	for _, def := range m.Types {
		n.cases(def.Cases)
	}
	for _, one := range m.Imports {
		item, _ := names.Value(one.From + "." + one.Name)
		cases, _ := names.Cases(one.From + "." + one.Name)
		n.whole += len(item.Type)
		n.cases(cases)
	}
	n.symbols += len(m.Imports) + len(n.named)
	n.texts = len(listTypes(m))
	return n.needs
}

// cases counts twice, since a type may be a symbol, too.
func (n *needing) cases(l []api.Case) {
	for _, one := range l {
		n.whole += 2 * len(one.Name+strings.Join(one.Fields, ""))
	}
}

func (n *needing) function(along []string, params []api.Param, body api.Expr) {
	outer := n.code
	locals := slices.Clone(along)
	for _, param := range params {
		locals = append(locals, param.Name)
		n.whole += len(param.Type)
	}
	n.funs++
	raise(&n.needs.locals, len(locals)+capture.Locals(body))
	n.code = 1 // the Ret
	raise(&n.needs.stack, n.expr(body, locals))
	raise(&n.needs.code, n.code)
	n.whole += n.code
	n.code = outer
}

// refer counts a reference to a name of the module's own, or to one of another module.
func (n *needing) refer(name string) {
	n.relocs++
	if !strings.Contains(name, ".") {
		n.named[name]++
	}
}

// typeOfCase is the name of the own type that has it, or the case's own name, if that has a dot.
func (n *needing) typeOfCase(name string) string {
	for _, def := range n.m.Types {
		if slices.ContainsFunc(def.Cases, func(c api.Case) bool { return c.Name == name }) {
			return def.Name
		}
	}
	return name
}

// expr counts the bytes of an expression's code, and answers how many values lie on the stack at most while it runs.
func (n *needing) expr(e api.Expr, locals []string) int {
	most := 1
	kids := func(kids []api.Expr) {
		for k, kid := range kids {
			raise(&most, k+n.expr(kid, locals))
		}
	}
	switch e.Kind {
	case api.Number:
		w := wire.NewWriter()
		w.Signed(int64(real(e.N)))
		w.Signed(int64(imag(e.N)))
		n.code += 1 + len(w.Done())
	case api.Text:
		w := wire.NewWriter()
		w.Text(e.Text)
		n.code += 1 + len(w.Done())
	case api.Var:
		n.variable(e.Name, locals)
	case api.Let:
		kids(e.Kids[:1])
		n.code += 2
		raise(&most, n.expr(e.Kids[1], append(slices.Clip(locals), e.Name)))
	case api.If:
		n.code += 6
		for _, kid := range e.Kids {
			raise(&most, n.expr(kid, locals))
		}
	case api.Op, api.Apply:
		kids(e.Kids)
		n.code += 2
	case api.List:
		kids(e.Kids)
		n.code += 3
	case api.Make:
		kids(e.Kids)
		n.code += 4
		n.refer(n.typeOfCase(e.Name))
	case api.Call:
		kids(e.Kids)
		n.code += 3
		n.refer(e.Name)
	case api.Match:
		kids(e.Kids)
		n.code += 4 + 5*len(e.Arms) - 3
		n.refer(n.typeOfCase(e.Arms[0].Case))
		for _, arm := range e.Arms {
			n.code += 2 * len(arm.Vars)
			raise(&most, max(len(arm.Vars), n.expr(arm.Body, slices.Concat(locals, arm.Vars))))
		}
	case api.Lambda:
		raise(&most, n.lambda(e, locals))
	}
	return most
}

func (n *needing) variable(name string, locals []string) {
	if slices.Contains(locals, name) {
		n.code += 2
		return
	}
	n.code += 3
	if item, _ := n.names.Value(name); item.Kind == api.Fun {
		n.code++
	}
	n.refer(name)
}

func (n *needing) lambda(e api.Expr, locals []string) int {
	along := slices.DeleteFunc(capture.Free(e), func(name string) bool { return !slices.Contains(locals, name) })
	n.code += 2*len(along) + 4
	n.relocs++
	n.symbols++
	n.whole += 20 * len(along) // they have types, too
	n.function(along, e.Params, e.Kids[0])
	return len(along)
}

// refusals are the errors that a module may get for what it needs.
func (n needs) refusals() (l []api.Errno) {
	if n.locals > api.MaxLocals || n.funs > api.MaxFuns || n.symbols > api.MaxSymbols || n.texts > api.MaxItems || n.relocs > 4*api.MaxSymbols {
		l = append(l, api.ErrMany)
	}
	if n.stack > api.MaxStack {
		l = append(l, api.ErrStack)
	}
	if n.code > api.MaxCode {
		l = append(l, api.ErrLong)
	}
	return l
}

// wantLowered: the module is refused as sema.Module refuses it, or for what it needs, or it is an object of which all holds that is promised.
func wantLowered(t testing.TB, m api.Module, l []api.Iface) api.Errno {
	t.Helper()
	want, _, _ := sema.Module(m, l)
	_, got := lower.Module(m, l)
	if want != api.OK {
		wantRefused(t, m, l, want)
		return got
	}
	need := needsOf(m, l)
	if got == api.OK {
		wantObject(t, m, l)
		if no := need.refusals(); len(no) > 0 {
			t.Fatalf("%s: is not refused: %v, %+v", parse.Print(m), no, need)
		}
		return got
	}
	wantRefused(t, m, l, got)
	if !slices.Contains(need.refusals(), got) && (got != api.ErrLong || need.whole < api.MaxObject/2) {
		t.Fatalf("%s: %v, but needs %+v", parse.Print(m), got, need)
	}
	if isModest(m, l) {
		t.Fatalf("%s: a modest one: %v", parse.Print(m), got)
	}
	return got
}
