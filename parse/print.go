package parse

import (
	"hawser/api"
	"hawser/lex"
	"hawser/num"
	"hawser/types"
)

// writer puts a blank only where two Atoms would run together: what it writes is then no longer than any source of the same module, so that it is never too long to be read again.
type writer struct {
	module string
	todo   []left
	out    []byte
	atAtom bool // the last sign is an Atom
}

// left is what is not written yet: an expression, an arm, or, if it is neither, a Close.
type left struct {
	expr *api.Expr
	arm  *api.Arm
}

// Print: see the chapter.
func Print(m api.Module) string {
	w := writer{module: m.Name}
	w.open("module", m.Name)
	w.writeImports(m.Imports)
	if len(m.Exports) > 0 {
		w.open("export", m.Exports...)
		w.close()
	}
	for _, def := range m.Types {
		w.writeTypeDef(def)
	}
	for i := range m.Consts {
		w.open("const", m.Consts[i].Name)
		w.writeType(m.Consts[i].Type)
		w.writeExpr(&m.Consts[i].Body)
		w.close()
	}
	for i := range m.Funs {
		w.open("fun", m.Funs[i].Name)
		w.writeParams(m.Funs[i].Params)
		w.writeType(m.Funs[i].Type)
		w.writeExpr(&m.Funs[i].Body)
		w.close()
	}
	w.close()
	return string(w.out)
}

// open writes an Open, and Atoms behind it.
func (w *writer) open(head string, more ...string) {
	w.sign('(')
	w.atom(head)
	for _, text := range more {
		w.atom(text)
	}
}

func (w *writer) close() { w.sign(')') }

func (w *writer) sign(c byte) {
	w.out = append(w.out, c)
	w.atAtom = false
}

func (w *writer) atom(text string) {
	if w.atAtom {
		w.out = append(w.out, ' ')
	}
	w.out = append(w.out, text...)
	w.atAtom = true
}

func (w *writer) quoted(text string) {
	w.out = append(w.out, lex.Quote(text)...)
	w.atAtom = false
}

// writeImports writes one item for the names that come from one module in a row: those further on would change places.
func (w *writer) writeImports(imports []api.Import) {
	for i, next := range imports {
		if i == 0 || imports[i-1].From != next.From {
			w.open("import", next.From)
		}
		w.atom(next.Name)
		if i == len(imports)-1 || imports[i+1].From != next.From {
			w.close()
		}
	}
}

func (w *writer) writeTypeDef(def api.TypeDef) {
	w.open("type", def.Name)
	for _, c := range def.Cases {
		w.open(c.Name)
		for _, field := range c.Fields {
			w.writeType(field)
		}
		w.close()
	}
	w.close()
}

func (w *writer) writeParams(params []api.Param) {
	w.sign('(')
	for _, param := range params {
		w.open(param.Name)
		w.writeType(param.Type)
		w.close()
	}
	w.close()
}

// writeType calls itself, since no type is longer than MaxText.
func (w *writer) writeType(s string) {
	if elem, is := types.Elem(s); is {
		w.open("array")
		w.writeType(elem)
		w.close()
		return
	}
	if params, result, is := types.Parts(s); is {
		w.open("fn")
		w.sign('(')
		for _, param := range params {
			w.writeType(param)
		}
		w.close()
		w.writeType(result)
		w.close()
		return
	}
	if module, name, is := types.Named(s); is && module == w.module {
		s = name
	}
	w.atom(s)
}

// writeExpr keeps what is not written yet on a stack, as readExpr does.
func (w *writer) writeExpr(e *api.Expr) {
	w.todo = append(w.todo, left{expr: e})
	for len(w.todo) > 0 {
		top := len(w.todo) - 1
		next := w.todo[top]
		w.todo = w.todo[:top]
		switch {
		case next.expr != nil:
			w.writeForm(next.expr)
		case next.arm != nil:
			w.writeArm(next.arm)
		default:
			w.close()
		}
	}
}

func (w *writer) writeForm(e *api.Expr) {
	switch e.Kind {
	case api.Number:
		w.atom(num.Text(e.N))
		return
	case api.Text:
		w.quoted(e.Text)
		return
	case api.Var:
		w.atom(e.Name)
		return
	case api.Let:
		w.open("let", e.Name)
	case api.If:
		w.open("if")
	case api.List:
		w.open("array")
		w.writeType(e.Type)
	case api.Match:
		w.open("match")
	case api.Lambda:
		w.open("fn")
		w.writeParams(e.Params)
		w.writeType(e.Type)
	case api.Apply:
		w.open("call")
	default:
		w.open(e.Name)
	}
	w.leaveRest(e)
}

// leaveRest leaves what stands behind the head of e to be written.
func (w *writer) leaveRest(e *api.Expr) {
	w.todo = append(w.todo, left{})
	for i := len(e.Arms) - 1; i >= 0; i-- {
		w.todo = append(w.todo, left{arm: &e.Arms[i]})
	}
	for i := len(e.Kids) - 1; i >= 0; i-- {
		w.todo = append(w.todo, left{expr: &e.Kids[i]})
	}
}

func (w *writer) writeArm(arm *api.Arm) {
	w.sign('(')
	w.open(arm.Case, arm.Vars...)
	w.close()
	w.todo = append(w.todo, left{}, left{expr: &arm.Body})
}
