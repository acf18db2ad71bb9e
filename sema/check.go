package sema

import (
	"slices"

	"hawser/api"
	"hawser/scope"
	"hawser/types"
)

const (
	num   = "num"
	bytes = "bytes"
)

// deepest is how many expressions may be nested in one another: more than the document asks for, and few enough for calls within calls. A ring of expressions, which has no end, is refused by it.
const deepest = 1 << 18

// checker goes through one expression from the left, and keeps the first refusal: whatever is looked at behind it is not told, so that no step needs to ask whether the one ahead went well.
type checker struct {
	names  *scope.Scope
	consts []api.ConstDef // the module's own
	known  int            // how many of them are known
	locals []local
	last   map[string]int // by name: the number of its last local, from 1 on; 0, if there is none
	deep   int
	why    api.Errno
	at     int
}

// refuse answers the type of what is refused, which is none.
func (c *checker) refuse(why api.Errno, at int) string {
	if c.why == api.OK {
		c.why, c.at = why, at
	}
	return ""
}

// need refuses an expression that is of a type that may not be.
func (c *checker) need(ok bool, e *api.Expr) {
	if !ok {
		c.refuse(api.ErrType, e.At)
	}
}

func (c *checker) typeOf(e *api.Expr) string {
	if c.why != api.OK {
		return ""
	}
	if c.deep == deepest {
		return c.refuse(api.ErrNest, e.At)
	}
	c.deep++
	t := c.typeByKind(e)
	c.deep--
	return t
}

func (c *checker) typeByKind(e *api.Expr) string {
	if lacksKids(e) {
		return c.refuse(api.ErrForm, e.At)
	}
	switch e.Kind {
	case api.Number:
		return num
	case api.Text:
		return bytes
	case api.Var:
		return c.typeOfVar(e)
	case api.Let:
		return c.typeOfLet(e)
	case api.If:
		return c.typeOfIf(e)
	case api.Op:
		return c.typeOfOp(e)
	case api.List:
		return c.typeOfList(e)
	case api.Make:
		return c.typeOfMake(e)
	case api.Match:
		return c.typeOfMatch(e)
	case api.Lambda:
		return c.typeOfLambda(e)
	case api.Apply:
		return c.typeOfApply(e)
	case api.Call:
		return c.typeOfCall(e)
	}
	return c.refuse(api.ErrForm, e.At)
}

// lacksKids tells of an expression that was put together by hand: what parse makes has the Kids that its Kind needs.
func lacksKids(e *api.Expr) bool {
	switch e.Kind {
	case api.Let:
		return len(e.Kids) < 2
	case api.If:
		return len(e.Kids) < 3
	case api.Match, api.Lambda, api.Apply:
		return len(e.Kids) < 1
	}
	return false
}

func (c *checker) typesOf(list []api.Expr) []string {
	out := make([]string, len(list))
	for k := range list {
		out[k] = c.typeOf(&list[k])
	}
	return out
}

// fit refuses the first expression that is of another type than the one wanted at its place.
func (c *checker) fit(list []api.Expr, got, want []string) {
	for k := range list {
		c.need(got[k] == want[k], &list[k])
	}
}

func (c *checker) typeOfVar(e *api.Expr) string {
	if n := c.last[e.Name]; n > 0 {
		return c.locals[n-1].of
	}
	item, ok := c.names.Value(e.Name)
	if !ok || c.comesLater(e.Name) {
		return c.refuse(api.ErrName, e.At)
	}
	return item.Type
}

// comesLater tells whether a name is that of a constant of the module's own that is not known yet.
func (c *checker) comesLater(name string) bool {
	for k := range c.consts {
		if c.consts[k].Name == name {
			return k >= c.known
		}
	}
	return false
}

func (c *checker) typeOfLet(e *api.Expr) string {
	from := len(c.locals)
	c.bind(e.Name, c.typeOf(&e.Kids[0]))
	t := c.typeOf(&e.Kids[1])
	c.unbind(from)
	return t
}

func (c *checker) typeOfIf(e *api.Expr) string {
	kids := c.typesOf(e.Kids)
	c.need(kids[0] == num, &e.Kids[0])
	if kids[1] != kids[2] {
		return c.refuse(api.ErrType, e.At)
	}
	return kids[1]
}

func (c *checker) typeOfOp(e *api.Expr) string {
	if len(e.Kids) != takes(e.Name) {
		return c.refuse(api.ErrCount, e.At)
	}
	kids := c.typesOf(e.Kids)
	elem, isRow := elemOf(kids[0])
	switch e.Name {
	case "eq":
		c.need(kids[0] == num || kids[0] == bytes, &e.Kids[0])
		c.need(kids[1] == kids[0], &e.Kids[1])
	case "cat":
		c.need(isRow, &e.Kids[0])
		c.need(kids[1] == kids[0], &e.Kids[1])
		return kids[0]
	case "len":
		c.need(isRow, &e.Kids[0])
	case "at":
		c.need(isRow, &e.Kids[0])
		c.need(kids[1] == num, &e.Kids[1])
		return elem
	case "cut":
		c.fit(e.Kids, kids, []string{bytes, num, num})
		return bytes
	default:
		for k := range kids {
			c.need(kids[k] == num, &e.Kids[k])
		}
	}
	return num
}

// takes is how many Kids an operation has.
func takes(op string) int {
	switch op {
	case "neg", "conj", "re", "im", "len":
		return 1
	case "cut":
		return 3
	}
	return 2
}

// elemOf is the type of what stands in bytes or an array.
func elemOf(t string) (string, bool) {
	if t == bytes {
		return num, true
	}
	return types.Elem(t)
}

func (c *checker) typeOfList(e *api.Expr) string {
	if !c.names.Known(e.Type) {
		return c.refuse(api.ErrType, e.At)
	}
	for k, t := range c.typesOf(e.Kids) {
		c.need(t == e.Type, &e.Kids[k])
	}
	return c.written(types.Array(e.Type), e)
}

// written refuses a type that has become too long.
func (c *checker) written(t string, e *api.Expr) string {
	if len(t) > api.MaxText {
		return c.refuse(api.ErrLong, e.At)
	}
	return t
}

func (c *checker) typeOfMake(e *api.Expr) string {
	owner, _, one, ok := c.names.Case(e.Name)
	if !ok {
		return c.refuse(api.ErrName, e.At)
	}
	if len(e.Kids) != len(one.Fields) {
		return c.refuse(api.ErrCount, e.At)
	}
	c.fit(e.Kids, c.typesOf(e.Kids), one.Fields)
	return owner
}

func (c *checker) typeOfMatch(e *api.Expr) string {
	whole := c.typeOf(&e.Kids[0])
	cases, ok := c.names.Cases(whole)
	c.need(ok, &e.Kids[0])
	var armed []int // the numbers of the cases that have an arm
	first := ""
	for k := range e.Arms {
		t, n := c.typeOfArm(&e.Arms[k], whole, armed, e.At)
		armed = append(armed, n)
		if k == 0 {
			first = t
		}
		c.need(t == first, &e.Arms[k].Body)
	}
	if len(armed) < len(cases) {
		return c.refuse(api.ErrCover, e.At)
	}
	return first
}

// typeOfArm is the type of an arm's Body, with the number of its case.
func (c *checker) typeOfArm(arm *api.Arm, whole string, armed []int, at int) (string, int) {
	owner, n, one, ok := c.names.Case(arm.Case)
	switch {
	case !ok:
		return c.refuse(api.ErrName, at), 0
	case owner != whole:
		return c.refuse(api.ErrType, at), 0
	case slices.Contains(armed, n):
		return c.refuse(api.ErrTaken, at), 0
	case len(arm.Vars) != len(one.Fields):
		return c.refuse(api.ErrCount, at), 0
	}
	from := len(c.locals)
	for k, name := range arm.Vars {
		c.bind(name, one.Fields[k])
	}
	t := c.typeOf(&arm.Body)
	c.unbind(from)
	return t, n
}

func (c *checker) typeOfLambda(e *api.Expr) string {
	params := make([]string, len(e.Params))
	for k, param := range e.Params {
		params[k] = param.Type
		c.need(c.names.Known(param.Type), e)
	}
	c.need(c.names.Known(e.Type), e)
	t := c.written(types.Func(params, e.Type), e)
	from := len(c.locals)
	c.bindAll(e.Params)
	c.need(c.typeOf(&e.Kids[0]) == e.Type, &e.Kids[0])
	c.unbind(from)
	return t
}

func (c *checker) typeOfApply(e *api.Expr) string {
	kids := c.typesOf(e.Kids)
	params, result, ok := types.Parts(kids[0])
	c.need(ok, &e.Kids[0])
	if len(params) != len(kids)-1 {
		return c.refuse(api.ErrCount, e.At)
	}
	c.fit(e.Kids[1:], kids[1:], params)
	return result
}

func (c *checker) typeOfCall(e *api.Expr) string {
	item, ok := c.names.Value(e.Name)
	if !ok || item.Kind != api.Fun {
		return c.refuse(api.ErrName, e.At)
	}
	params, result, _ := types.Parts(item.Type)
	if len(params) != len(e.Kids) {
		return c.refuse(api.ErrCount, e.At)
	}
	c.fit(e.Kids, c.typesOf(e.Kids), params)
	return result
}
