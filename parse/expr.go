package parse

import (
	"strings"

	"hawser/api"
	"hawser/lex"
	"hawser/num"
	"hawser/tree"
)

const (
	none    = 0 // the Kind of what is no expression
	maxList = 32
)

// part is a tree that is not read yet, and where what it says goes: an expression or an arm.
type part struct {
	tree *tree.Tree
	expr *api.Expr
	arm  *api.Arm
}

// Expr: see the chapter.
func Expr(t tree.Tree, module string) (api.Expr, api.Errno, int) {
	r := reader{module: module}
	e := r.readExpr(&t)
	if r.why != api.OK {
		return api.Expr{}, r.why, r.at
	}
	return e, api.OK, 0
}

// readExpr keeps what is not read yet on a stack, what stands leftmost on top, since calls within calls could not go as deep as a tree that is handed in.
func (r *reader) readExpr(t *tree.Tree) api.Expr {
	var whole api.Expr
	r.todo = append(r.todo, part{tree: t, expr: &whole})
	for len(r.todo) > 0 && r.why == api.OK {
		top := len(r.todo) - 1
		next := r.todo[top]
		r.todo = r.todo[:top]
		if next.arm != nil {
			r.readArm(next.tree, next.arm)
		} else {
			r.readForm(next.tree, next.expr)
		}
	}
	return whole
}

func (r *reader) readForm(t *tree.Tree, e *api.Expr) {
	e.Kind, e.At = kindOf(t), t.At
	if e.Kind == none {
		r.refuse(api.ErrForm, t.At)
		return
	}
	if crowded(t, e.Kind) {
		r.refuse(api.ErrCount, t.At)
		return
	}
	switch e.Kind {
	case api.Number:
		e.N, _ = num.Parse(t.Text)
	case api.Text:
		e.Text = strings.Clone(t.Text)
	case api.Var:
		e.Name = strings.Clone(t.Text)
	case api.Let:
		e.Name = r.readName(&t.Kids[1], mayBind)
		r.leaveKids(t.Kids[2:], e)
	case api.If, api.Apply:
		r.leaveKids(t.Kids[1:], e)
	case api.List:
		e.Type = r.readType(&t.Kids[1])
		r.leaveKids(t.Kids[2:], e)
	case api.Match:
		r.leaveArms(t.Kids[2:], e)
		r.leaveKids(t.Kids[1:2], e)
	case api.Lambda:
		e.Params = r.readParams(t.Kids[1].Kids)
		e.Type = r.readType(&t.Kids[2])
		r.leaveKids(t.Kids[3:], e)
	case api.Op, api.Make, api.Call:
		e.Name = strings.Clone(t.Kids[0].Text)
		r.leaveKids(t.Kids[1:], e)
	}
}

// kindOf is the Kind of the expression whose form t has.
func kindOf(t *tree.Tree) int {
	switch t.Kind {
	case lex.Quoted:
		return api.Text
	case lex.Open:
		return kindOfOpen(t)
	case lex.Atom:
		if _, is := num.Parse(t.Text); is {
			return api.Number
		}
		if isPathToValue(t.Text) {
			return api.Var
		}
	}
	return none
}

func kindOfOpen(t *tree.Tree) int {
	head, size := headOf(t), len(t.Kids)
	switch {
	case head == "let" && size == 4 && t.Kids[1].Kind == lex.Atom:
		return api.Let
	case head == "if" && size == 4:
		return api.If
	case head == "array" && size >= 2:
		return api.List
	case head == "match" && size >= 3:
		return api.Match
	case head == "fn" && size == 4 && t.Kids[1].Kind == lex.Open:
		return api.Lambda
	case head == "call" && size >= 2:
		return api.Apply
	case isOp(head):
		return api.Op
	case isWord(head):
		return none
	case isPathToBig(head):
		return api.Make
	case isPathToValue(head):
		return api.Call
	}
	return none
}

// crowded tells whether t, which has the form of that Kind, has more of something than may be.
func crowded(t *tree.Tree, kind int) bool {
	switch kind {
	case api.List:
		return len(t.Kids)-2 > maxList
	case api.Match:
		return len(t.Kids)-2 > api.MaxCases
	case api.Make:
		return len(t.Kids)-1 > api.MaxFields
	case api.Lambda:
		return len(t.Kids[1].Kids) > api.MaxParams
	case api.Apply:
		return len(t.Kids)-2 > api.MaxParams
	case api.Call:
		return len(t.Kids)-1 > api.MaxParams
	}
	return false
}

func (r *reader) readArm(t *tree.Tree, arm *api.Arm) {
	if t.Kind != lex.Open || len(t.Kids) != 2 || t.Kids[0].Kind != lex.Open {
		r.refuse(api.ErrForm, t.At)
		return
	}
	head := &t.Kids[0]
	if len(head.Kids)-1 > api.MaxFields {
		r.refuse(api.ErrCount, t.At)
		return
	}
	if len(head.Kids) == 0 || !allAtoms(head.Kids) {
		r.refuse(api.ErrForm, head.At)
		return
	}
	arm.Case = r.readName(&head.Kids[0], isPathToBig)
	arm.Vars = r.readNames(head.Kids[1:], mayBind)
	r.todo = append(r.todo, part{tree: &t.Kids[1], expr: &arm.Body})
}

// leaveKids leaves the trees to be read as the Kids of e.
func (r *reader) leaveKids(trees []tree.Tree, e *api.Expr) {
	e.Kids = make([]api.Expr, len(trees))
	for i := len(trees) - 1; i >= 0; i-- {
		r.todo = append(r.todo, part{tree: &trees[i], expr: &e.Kids[i]})
	}
}

// leaveArms leaves the trees to be read as the Arms of e.
func (r *reader) leaveArms(trees []tree.Tree, e *api.Expr) {
	e.Arms = make([]api.Arm, len(trees))
	for i := len(trees) - 1; i >= 0; i-- {
		r.todo = append(r.todo, part{tree: &trees[i], arm: &e.Arms[i]})
	}
}
