package lower

import (
	"slices"

	"hawser/api"
	"hawser/code"
)

// body is the code of one function while it is written. A local's place is its number: what is bound within a binding stands behind it, and leaves its place to others when its turn is over.
type body struct {
	*writing
	ways   [api.Call + 1]func(e *api.Expr) string
	locals []api.Param
	list   []code.Inst
	meant  []int // the symbols that references mean, in their order
	end    int   // where the next instruction will stand
	high   int   // how many values lie on the stack there
}

// newBody takes the ways of all kinds as method values, once a function, so that each expression finds its own by its Kind.
func (w *writing) newBody(locals []api.Param) *body {
	b := &body{writing: w, locals: locals}
	b.ways = [...]func(e *api.Expr) string{
		api.Number: b.number,
		api.Text:   b.literal,
		api.Var:    b.variable,
		api.Let:    b.let,
		api.If:     b.choose,
		api.Op:     b.operate,
		api.List:   b.array,
		api.Make:   b.build,
		api.Match:  b.match,
		api.Lambda: b.enclose,
		api.Apply:  b.apply,
		api.Call:   b.call,
	}
	return b
}

// add writes an instruction, which takes values off the stack and leaves others there.
func (b *body) add(i code.Inst, popped, pushed int) {
	if b.why != api.OK {
		return
	}
	i.At = b.end
	b.list = append(b.list, i)
	b.end += size(i)
	if b.end > api.MaxCode {
		b.refuse(api.ErrLong)
	}
	b.rise(pushed - popped)
}

// rise refuses a stack that has become too high.
func (b *body) rise(by int) {
	b.high += by
	if b.high > api.MaxStack {
		b.refuse(api.ErrStack)
	}
}

// size asks package code how long an instruction is, wherever it may stand and go. One that package code refuses has no size: it is refused with its whole list.
func size(i code.Inst) int {
	i.At, i.To = 0, slices.Repeat([]int{api.MaxCode}, len(i.To))
	b, _ := code.Encode([]code.Inst{i})
	return len(b)
}

// refer adds an instruction whose reference means a symbol.
func (b *body) refer(i code.Inst, symbol, popped, pushed int) {
	b.meant = append(b.meant, symbol)
	b.add(i, popped, pushed)
}

// leave adds an instruction that goes elsewhere, and answers what is told behind it where that is: the list is shared with the instruction.
func (b *body) leave(op, popped int) []int {
	to := make([]int, 1)
	b.add(code.Inst{Op: op, To: to}, popped, 0)
	return to
}

// find looks from the last local on, since that hides the others of its name.
func (b *body) find(name string) (int, bool) {
	for n, local := range slices.Backward(b.locals) {
		if local.Name == name {
			return n, true
		}
	}
	return 0, false
}

// within emits e where some more locals are known: their values lie on the stack, the last one on top.
func (b *body) within(more []api.Param, e *api.Expr) string {
	from := len(b.locals)
	b.locals = append(b.locals, more...)
	for n := range slices.Backward(b.locals[from:]) {
		b.add(code.Inst{Op: code.Store, A: from + n}, 1, 0)
	}
	t := b.emit(e)
	b.locals = b.locals[:from]
	return t
}
