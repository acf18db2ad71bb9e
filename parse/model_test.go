package parse_test

import (
	"regexp"
	"strings"

	"hawser/api"
	"hawser/lex"
	"hawser/num"
	"hawser/tree"
	"hawser/types"
)

// The model: P6.1 and P6.2 told once more, by calls within calls and by patterns; what is refused is thrown.

type refusal struct {
	why api.Errno
	at  int
}

var (
	valueRule = regexp.MustCompile(`^[a-z_][A-Za-z0-9_]{0,23}$`)
	bigRule   = regexp.MustCompile(`^[A-Z][A-Za-z0-9_]{0,23}$`)
	nameRule  = regexp.MustCompile(`^[A-Za-z_][A-Za-z0-9_]{0,23}$`)
	varRule   = regexp.MustCompile(`^([a-z_][A-Za-z0-9_]{0,23}\.)?[a-z_][A-Za-z0-9_]{0,23}$`)
	caseRule  = regexp.MustCompile(`^([a-z_][A-Za-z0-9_]{0,23}\.)?[A-Z][A-Za-z0-9_]{0,23}$`)
	opRule    = regexp.MustCompile(`^(add|sub|mul|neg|conj|re|im|eq|lt|cat|len|at|cut)$`)
	wordRule  = regexp.MustCompile(`^(add|sub|mul|neg|conj|re|im|eq|lt|cat|len|at|cut|let|if|array|match|fn|call|num|bytes|module|import|export|type|const|fun)$`)
)

// shapes: by its head, what the Kids of a form are: a an Atom, o an Open.
var (
	exprShapes = map[string]string{"let": "^aa..$", "if": "^a...$", "array": "^a.+$", "match": "^a..+$", "fn": "^ao..$", "call": "^a.+$"}
	itemShapes = map[string]string{"import": "^aa+$", "export": "^a+$", "type": "^aa.+$", "const": "^aa..$", "fun": "^aao..$"}
)

func throw(why api.Errno, at int) { panic(refusal{why, at}) }

func caught(f func()) (why api.Errno, at int) {
	defer func() {
		if got := recover(); got != nil {
			r := got.(refusal)
			why, at = r.why, r.at
		}
	}()
	f()
	return api.OK, 0
}

func shapeOf(x tree.Tree) string {
	var shape strings.Builder
	for _, kid := range x.Kids {
		shape.WriteByte(map[int]byte{lex.Open: 'o', lex.Atom: 'a', lex.Quoted: 'q'}[kid.Kind])
	}
	return shape.String()
}

func mustHave(x tree.Tree, shape string) {
	if x.Kind != lex.Open || shape == "" || !regexp.MustCompile("(?s)"+shape).MatchString(shapeOf(x)) {
		throw(api.ErrForm, x.At)
	}
}

func mustCount(x tree.Tree, n, most int) {
	if n > most {
		throw(api.ErrCount, x.At)
	}
}

func nameByRule(x tree.Tree, rule *regexp.Regexp, bound bool) string {
	if !rule.MatchString(x.Text) || bound && wordRule.MatchString(x.Text) {
		throw(api.ErrName, x.At)
	}
	return x.Text
}

func typeByRule(x tree.Tree, module string) string {
	text, why, at := types.Read(x, module)
	if why != api.OK {
		throw(why, at)
	}
	return text
}

func paramsByCalls(kids []tree.Tree, module string) (params []api.Param) {
	for _, kid := range kids {
		mustHave(kid, "^a.$")
		params = append(params, api.Param{Name: nameByRule(kid.Kids[0], valueRule, true), Type: typeByRule(kid.Kids[1], module)})
	}
	return params
}

func kidsByCalls(kids []tree.Tree, module string) (l []api.Expr) {
	for _, kid := range kids {
		l = append(l, exprByCalls(kid, module))
	}
	return l
}

func armByCalls(x tree.Tree, module string) (arm api.Arm) {
	mustHave(x, "^o.$")
	mustCount(x, len(x.Kids[0].Kids)-1, 4)
	mustHave(x.Kids[0], "^a+$")
	arm.Case = nameByRule(x.Kids[0].Kids[0], caseRule, false)
	for _, kid := range x.Kids[0].Kids[1:] {
		arm.Vars = append(arm.Vars, nameByRule(kid, valueRule, true))
	}
	arm.Body = exprByCalls(x.Kids[1], module)
	return arm
}

func singleByCalls(x tree.Tree) api.Expr {
	n, isNumber := num.Parse(x.Text)
	switch {
	case x.Kind == lex.Quoted:
		return api.Expr{Kind: api.Text, At: x.At, Text: x.Text}
	case x.Kind == lex.Atom && isNumber:
		return api.Expr{Kind: api.Number, At: x.At, N: n}
	case x.Kind == lex.Atom && varRule.MatchString(x.Text):
		return api.Expr{Kind: api.Var, At: x.At, Name: x.Text}
	}
	throw(api.ErrForm, x.At)
	return api.Expr{}
}

func exprByCalls(x tree.Tree, module string) api.Expr {
	if x.Kind != lex.Open {
		return singleByCalls(x)
	}
	mustHave(x, "^a")
	head, e := x.Kids[0].Text, api.Expr{At: x.At}
	if wordRule.MatchString(head) && !opRule.MatchString(head) {
		mustHave(x, exprShapes[head])
		return wordByCalls(x, module)
	}
	e.Name = head
	switch {
	case opRule.MatchString(head):
		e.Kind = api.Op
	case varRule.MatchString(head):
		e.Kind = api.Call
		mustCount(x, len(x.Kids)-1, 6)
	case caseRule.MatchString(head):
		e.Kind = api.Make
		mustCount(x, len(x.Kids)-1, 4)
	default:
		throw(api.ErrForm, x.At)
	}
	e.Kids = kidsByCalls(x.Kids[1:], module)
	return e
}

func wordByCalls(x tree.Tree, module string) api.Expr {
	e, kids := api.Expr{At: x.At}, x.Kids
	switch kids[0].Text {
	case "let":
		e.Kind = api.Let
		e.Name = nameByRule(kids[1], valueRule, true)
		e.Kids = kidsByCalls(kids[2:], module)
	case "if":
		e.Kind = api.If
		e.Kids = kidsByCalls(kids[1:], module)
	case "array":
		e.Kind = api.List
		mustCount(x, len(kids)-2, 32)
		e.Type = typeByRule(kids[1], module)
		e.Kids = kidsByCalls(kids[2:], module)
	case "match":
		e.Kind = api.Match
		mustCount(x, len(kids)-2, 6)
		e.Kids = kidsByCalls(kids[1:2], module)
		for _, kid := range kids[2:] {
			e.Arms = append(e.Arms, armByCalls(kid, module))
		}
	case "fn":
		e.Kind = api.Lambda
		mustCount(x, len(kids[1].Kids), 6)
		e.Params = paramsByCalls(kids[1].Kids, module)
		e.Type = typeByRule(kids[2], module)
		e.Kids = kidsByCalls(kids[3:], module)
	case "call":
		e.Kind = api.Apply
		mustCount(x, len(kids)-2, 6)
		e.Kids = kidsByCalls(kids[1:], module)
	}
	return e
}

func itemByCalls(x tree.Tree, m *api.Module) {
	mustHave(x, "^a")
	mustHave(x, itemShapes[x.Kids[0].Text])
	kids := x.Kids
	switch kids[0].Text {
	case "import":
		from := nameByRule(kids[1], valueRule, false)
		for _, kid := range kids[2:] {
			m.Imports = append(m.Imports, api.Import{From: from, Name: nameByRule(kid, nameRule, false)})
		}
	case "export":
		for _, kid := range kids[1:] {
			m.Exports = append(m.Exports, nameByRule(kid, nameRule, false))
		}
	case "type":
		m.Types = append(m.Types, typeDefByCalls(x, m.Name))
	case "const":
		m.Consts = append(m.Consts, api.ConstDef{Name: nameByRule(kids[1], valueRule, true), Type: typeByRule(kids[2], m.Name), Body: exprByCalls(kids[3], m.Name)})
	case "fun":
		mustCount(x, len(kids[2].Kids), 6)
		m.Funs = append(m.Funs, api.FunDef{Name: nameByRule(kids[1], valueRule, true), Params: paramsByCalls(kids[2].Kids, m.Name), Type: typeByRule(kids[3], m.Name), Body: exprByCalls(kids[4], m.Name)})
	}
}

func typeDefByCalls(x tree.Tree, module string) api.TypeDef {
	mustCount(x, len(x.Kids)-2, 6)
	for _, kid := range x.Kids[2:] {
		mustCount(x, len(kid.Kids)-1, 4)
	}
	def := api.TypeDef{Name: nameByRule(x.Kids[1], bigRule, false)}
	for _, kid := range x.Kids[2:] {
		mustHave(kid, "^a.*$")
		c := api.Case{Name: nameByRule(kid.Kids[0], bigRule, false)}
		for _, field := range kid.Kids[1:] {
			c.Fields = append(c.Fields, typeByRule(field, module))
		}
		def.Cases = append(def.Cases, c)
	}
	return def
}

func moduleByCalls(s string) (m api.Module) {
	x, why, at := tree.Parse(s)
	if why != api.OK {
		throw(why, at)
	}
	mustHave(x, "^aa.*$")
	if x.Kids[0].Text != "module" {
		throw(api.ErrForm, x.At)
	}
	m.Name = nameByRule(x.Kids[1], valueRule, false)
	for _, kid := range x.Kids[2:] {
		itemByCalls(kid, &m)
	}
	if len(m.Imports) > 32 || len(m.Exports) > 32 || len(m.Types) > 32 || len(m.Consts) > 32 || len(m.Funs) > 32 {
		throw(api.ErrMany, 0)
	}
	return m
}
