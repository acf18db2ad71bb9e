package lower

import (
	"slices"
	"strings"

	"hawser/api"
	"hawser/capture"
	"hawser/code"
	"hawser/types"
)

const (
	num   = "num"
	bytes = "bytes"
)

// operations are in the order of the numbers by which code does them.
const operations = "add sub mul neg conj re im eq lt cat len at cut"

// emit writes what leaves the value of e on the stack, and answers its type. That is not asked of sema again, so that no expression is looked at twice. Behind a refusal the types go on, since a Match needs that of what it looks at.
func (b *body) emit(e *api.Expr) string { return b.ways[e.Kind](e) }

// emitAll answers the first one's type: of no Kids, none.
func (b *body) emitAll(kids []api.Expr) string {
	first := ""
	for k := range kids {
		t := b.emit(&kids[k])
		if k == 0 {
			first = t
		}
	}
	return first
}

func (b *body) number(e *api.Expr) string {
	b.add(code.Inst{Op: code.Push, N: e.N}, 0, 1)
	return num
}

func (b *body) literal(e *api.Expr) string {
	b.add(code.Inst{Op: code.Literal, Text: e.Text}, 0, 1)
	return bytes
}

// variable makes a closure of a function that is named alone.
func (b *body) variable(e *api.Expr) string {
	if n, ok := b.find(e.Name); ok {
		b.add(code.Inst{Op: code.Load, A: n}, 0, 1)
		return b.locals[n].Type
	}
	item, _ := b.names.Value(e.Name)
	op := code.Global
	if item.Kind == api.Fun {
		op = code.Close
	}
	b.refer(code.Inst{Op: op}, b.symbolOfValue(e.Name), 0, 1)
	return item.Type
}

func (b *body) let(e *api.Expr) string {
	t := b.emit(&e.Kids[0])
	return b.within([]api.Param{{Name: e.Name, Type: t}}, &e.Kids[1])
}

func (b *body) choose(e *api.Expr) string {
	b.emit(&e.Kids[0])
	other := b.leave(code.Zero, 1)
	high := b.high
	b.emit(&e.Kids[1])
	end := b.leave(code.Jump, 0)
	other[0], b.high = b.end, high
	t := b.emit(&e.Kids[2])
	end[0] = b.end
	return t
}

func (b *body) operate(e *api.Expr) string {
	first := b.emitAll(e.Kids)
	b.add(code.Inst{Op: code.Do, A: slices.Index(strings.Fields(operations), e.Name)}, len(e.Kids), 1)
	return resultOf(e.Name, first)
}

// resultOf tells of what type the result of an operation is by the type of its first Kid.
func resultOf(op, first string) string {
	switch op {
	case "cat", "cut":
		return first
	case "at":
		if elem, ok := types.Elem(first); ok {
			return elem
		}
	}
	return num
}

func (b *body) array(e *api.Expr) string {
	b.emitAll(e.Kids)
	b.add(code.Inst{Op: code.Array, A: len(e.Kids), B: b.text(e.Type)}, len(e.Kids), 1)
	return types.Array(e.Type)
}

func (b *body) build(e *api.Expr) string {
	owner, n, _, _ := b.names.Case(e.Name)
	b.emitAll(e.Kids)
	b.refer(code.Inst{Op: code.Build, A: n}, b.symbolOfType(owner), len(e.Kids), 1)
	return owner
}

// match writes the arms in their order, and sends each case to its own.
func (b *body) match(e *api.Expr) string {
	whole := b.emit(&e.Kids[0])
	cases, _ := b.names.Cases(whole)
	to := make([]int, len(cases))
	b.refer(code.Inst{Op: code.Switch, A: len(to), To: to}, b.symbolOfType(whole), 1, 0)
	first, high := "", b.high
	var ends [][]int
	for k := range e.Arms {
		_, n, one, _ := b.names.Case(e.Arms[k].Case)
		to[n], b.high = b.end, high
		t := b.arm(&e.Arms[k], one.Fields)
		if k == 0 {
			first = t
		}
		if k < len(e.Arms)-1 {
			ends = append(ends, b.leave(code.Jump, 0))
		}
	}
	for _, end := range ends {
		end[0] = b.end
	}
	return first
}

func (b *body) arm(arm *api.Arm, fields []string) string {
	more := make([]api.Param, len(fields))
	for k, field := range fields {
		more[k] = api.Param{Name: arm.Vars[k], Type: field}
	}
	b.rise(len(fields))
	return b.within(more, &arm.Body)
}

// enclose takes along those names that are locals here: all others mean the same wherever they stand.
func (b *body) enclose(e *api.Expr) string {
	f := function{params: e.Params, result: e.Type, body: &e.Kids[0]}
	for _, name := range capture.Free(*e) {
		if n, ok := b.find(name); ok {
			b.add(code.Inst{Op: code.Load, A: n}, 0, 1)
			f.along = append(f.along, api.Param{Name: name, Type: b.locals[n].Type})
		}
	}
	b.refer(code.Inst{Op: code.Close, A: len(f.along)}, b.symbolOfLambda(f), len(f.along), 1)
	return types.Func(typesOfAll(e.Params), e.Type)
}

func (b *body) apply(e *api.Expr) string {
	called := b.emitAll(e.Kids)
	b.add(code.Inst{Op: code.Apply, A: len(e.Kids) - 1}, len(e.Kids), 1)
	_, result, _ := types.Parts(called)
	return result
}

func (b *body) call(e *api.Expr) string {
	b.emitAll(e.Kids)
	b.refer(code.Inst{Op: code.Call}, b.symbolOfValue(e.Name), len(e.Kids), 1)
	item, _ := b.names.Value(e.Name)
	_, result, _ := types.Parts(item.Type)
	return result
}
