package sema_test

import (
	"slices"
	"strings"

	"hawser/api"
	"hawser/iface"
	"hawser/lex"
	"hawser/num"
	"hawser/scope"
	"hawser/tree"
	"hawser/types"
)

// The model: P9.1 and P9.2 told once more, over the brackets of a source that parse takes, with lists of all names that are seen, and with panics for refusals.

// refusal is what the model panics with.
type refusal struct {
	why  api.Errno
	at   int
	name string
}

// caught is what f refuses.
func caught(f func()) (r refusal) {
	defer func() {
		if x := recover(); x != nil {
			r = x.(refusal)
		}
	}()
	f()
	return r
}

// unless refuses t.
func unless(ok bool, why api.Errno, t tree.Tree) {
	if !ok {
		panic(refusal{why: why, at: t.At})
	}
}

// member is a case by the name that it has in the module.
type member struct {
	name, owner string
	fields      []string
}

// world is what a module's bodies may name: the last one of vars that has a name counts, and the first one of cases.
type world struct {
	module string
	vars   []api.Param
	funs   []api.Param
	cases  []member
	known  []string
}

// worldOf gathers the names of m, with the first of its consts.
func worldOf(m api.Module, l []api.Iface, consts int) world {
	w := world{module: m.Name}
	for _, def := range m.Types {
		w.addType(m.Name+"."+def.Name, "", def.Cases)
	}
	for k, def := range m.Consts {
		if k < consts {
			w.vars = append(w.vars, api.Param{Name: def.Name, Type: def.Type})
		}
	}
	for _, def := range m.Funs {
		s := ""
		for _, param := range def.Params {
			s += "," + param.Type
		}
		w.funs = append(w.funs, api.Param{Name: def.Name, Type: "(" + strings.TrimPrefix(s, ",") + ")" + def.Type})
	}
	for _, one := range m.Imports {
		i := l[slices.IndexFunc(l, func(i api.Iface) bool { return i.Module == one.From })]
		x, _ := iface.Find(i, one.Name)
		name := one.From + "." + one.Name
		switch x.Kind {
		case api.Type:
			w.addType(name, one.From+".", x.Cases)
		case api.Fun:
			w.funs = append(w.funs, api.Param{Name: name, Type: x.Type})
		default:
			w.vars = append(w.vars, api.Param{Name: name, Type: x.Type})
		}
	}
	w.vars = append(w.vars, w.funs...)
	return w
}

func (w *world) addType(name, ahead string, cases []api.Case) {
	w.known = append(w.known, name)
	for _, c := range cases {
		w.cases = append(w.cases, member{ahead + c.Name, name, c.Fields})
	}
}

// with is w with more names.
func (w world) with(vars ...api.Param) world {
	w.vars = slices.Concat(w.vars, vars)
	return w
}

func last(l []api.Param, name string) (string, bool) {
	for _, one := range slices.Backward(l) {
		if one.Name == name {
			return one.Type, true
		}
	}
	return "", false
}

// caseNamed is the first case of that name.
func (w world) caseNamed(name string) (member, bool) {
	k := slices.IndexFunc(w.cases, func(c member) bool { return c.name == name })
	if k < 0 {
		return member{}, false
	}
	return w.cases[k], true
}

// knows tells whether all named types in t are known.
func (w world) knows(t string) bool {
	return len(t) <= 200 && !slices.ContainsFunc(types.Names(t), func(name string) bool { return !slices.Contains(w.known, name) })
}

func (w world) read(t tree.Tree) string {
	s, why, _ := types.Read(t, w.module)
	if why != api.OK {
		panic("a type that parse does not take")
	}
	return s
}

func (w world) all(l []tree.Tree) (out []string) {
	for _, t := range l {
		out = append(out, w.typed(t))
	}
	return out
}

// typed is the type of the expression that t is.
func (w world) typed(t tree.Tree) string {
	_, isNumber := num.Parse(t.Text)
	switch {
	case t.Kind == lex.Quoted:
		return "bytes"
	case t.Kind == lex.Atom && isNumber:
		return "num"
	case t.Kind == lex.Atom:
		of, ok := last(w.vars, t.Text)
		unless(ok, api.ErrName, t)
		return of
	}
	head, kids := t.Kids[0].Text, t.Kids[1:]
	switch head {
	case "let":
		return w.with(api.Param{Name: kids[0].Text, Type: w.typed(kids[1])}).typed(kids[2])
	case "if":
		l := w.all(kids)
		unless(l[0] == "num", api.ErrType, kids[0])
		unless(l[1] == l[2], api.ErrType, t)
		return l[2]
	case "array":
		of := w.read(kids[0])
		unless(w.knows(of), api.ErrType, t)
		w.takes(kids[1:], slices.Repeat([]string{of}, len(kids)-1))
		unless(len(of) <= 198, api.ErrLong, t)
		return "[" + of + "]"
	case "match":
		return w.typedMatch(t, kids[0], kids[1:])
	case "fn":
		return w.typedLambda(t, kids[0].Kids, kids[1], kids[2])
	case "call":
		l := w.all(kids)
		params, result, ok := types.Parts(l[0])
		unless(ok, api.ErrType, kids[0])
		unless(len(params) == len(kids)-1, api.ErrCount, t)
		w.takes(kids[1:], params)
		return result
	}
	if n, ok := counts()[head]; ok {
		unless(len(kids) == n, api.ErrCount, t)
		wrong, of := fitsOp(head, w.all(kids))
		unless(wrong < 0, api.ErrType, kids[max(wrong, 0)])
		return of
	}
	if c := head[strings.IndexByte(head, '.')+1]; 'A' <= c && c <= 'Z' {
		one, ok := w.caseNamed(head)
		unless(ok, api.ErrName, t)
		unless(len(kids) == len(one.fields), api.ErrCount, t)
		w.takes(kids, one.fields)
		return one.owner
	}
	of, ok := last(w.funs, head)
	unless(ok, api.ErrName, t)
	params, result, _ := types.Parts(of)
	unless(len(params) == len(kids), api.ErrCount, t)
	w.takes(kids, params)
	return result
}

// takes refuses the first of these that is of another type than the one wanted, behind what is refused in any of them.
func (w world) takes(l []tree.Tree, want []string) {
	for k, got := range w.all(l) {
		unless(got == want[k], api.ErrType, l[k])
	}
}

func (w world) typedLambda(t tree.Tree, params []tree.Tree, result, kid tree.Tree) string {
	inner, s := w, ""
	known := w.knows(w.read(result))
	for _, param := range params {
		of := w.read(param.Kids[1])
		known = known && w.knows(of)
		inner, s = inner.with(api.Param{Name: param.Kids[0].Text, Type: of}), s+","+of
	}
	s = "(" + strings.TrimPrefix(s, ",") + ")" + w.read(result)
	unless(known, api.ErrType, t)
	unless(len(s) <= 200, api.ErrLong, t)
	unless(inner.typed(kid) == w.read(result), api.ErrType, kid)
	return s
}

func (w world) typedMatch(t, kid tree.Tree, arms []tree.Tree) string {
	of := w.typed(kid)
	unless(slices.Contains(w.known, of), api.ErrType, kid)
	first := ""
	for k, arm := range arms {
		name := arm.Kids[0].Kids[0].Text
		one, ok := w.caseNamed(name)
		unless(ok, api.ErrName, t)
		unless(one.owner == of, api.ErrType, t)
		for _, ahead := range arms[:k] {
			unless(ahead.Kids[0].Kids[0].Text != name, api.ErrTaken, t)
		}
		inner := w
		unless(len(arm.Kids[0].Kids)-1 == len(one.fields), api.ErrCount, t)
		for n, field := range one.fields {
			inner = inner.with(api.Param{Name: arm.Kids[0].Kids[n+1].Text, Type: field})
		}
		got := inner.typed(arm.Kids[1])
		if k == 0 {
			first = got
		}
		unless(got == first, api.ErrType, arm.Kids[1])
	}
	for _, c := range w.cases {
		covered := slices.ContainsFunc(arms, func(arm tree.Tree) bool {
			one, _ := w.caseNamed(c.name)
			return arm.Kids[0].Kids[0].Text == c.name && one.owner == c.owner
		})
		unless(c.owner != of || covered, api.ErrCover, t)
	}
	return first
}

// moduleByBrackets is what the model refuses of a source that parse takes as m.
func moduleByBrackets(source string, m api.Module, l []api.Iface) refusal {
	if _, why, name := scope.New(m, l); why != api.OK {
		return refusal{why, 0, name}
	}
	if _, why := iface.Of(m); why != api.OK {
		return refusal{why: why}
	}
	t, _, _ := tree.Parse(source)
	consts := 0
	for _, item := range t.Kids[2:] {
		if item.Kids[0].Text == "const" {
			w := worldOf(m, l, consts)
			if r := w.body(item.Kids[2], item.Kids[3]); r.why != api.OK {
				return refusal{r.why, r.at, item.Kids[1].Text}
			}
			consts++
		}
	}
	for _, item := range t.Kids[2:] {
		if item.Kids[0].Text == "fun" {
			w := worldOf(m, l, consts)
			for _, param := range item.Kids[2].Kids {
				w = w.with(api.Param{Name: param.Kids[0].Text, Type: w.read(param.Kids[1])})
			}
			if r := w.body(item.Kids[3], item.Kids[4]); r.why != api.OK {
				return refusal{r.why, r.at, item.Kids[1].Text}
			}
		}
	}
	return refusal{}
}

func (w world) body(of, t tree.Tree) refusal {
	return caught(func() { unless(w.typed(t) == w.read(of), api.ErrType, t) })
}
