package lower_test

import (
	"fmt"
	"slices"
	"strings"
	"testing"

	"hawser/api"
	"hawser/capture"
	"hawser/iface"
	"hawser/object"
)

// modesty is what a module has of all that the chapter counts of a modest one: the greatest of each.
type modesty struct {
	definitions, imports, expressions, lambdas, kids, depth, locals, name, text, of, cases, fields int
}

// mostModest is how much a modest one may have.
func mostModest() modesty {
	return modesty{definitions: 6, imports: 8, expressions: 120, lambdas: 4, kids: 6, depth: 8, locals: api.MaxLocals, name: 8, text: 10, of: 20, cases: 3, fields: 2}
}

func raise(most *int, n int) { *most = max(*most, n) }

func (y *modesty) names(l ...string) {
	for _, name := range l {
		for part := range strings.SplitSeq(name, ".") {
			raise(&y.name, len(part))
		}
	}
}

func (y *modesty) params(l []api.Param) {
	for _, param := range l {
		y.names(param.Name)
		raise(&y.of, len(param.Type))
	}
}

func (y *modesty) typeDef(name string, cases []api.Case) {
	y.names(name)
	raise(&y.cases, len(cases))
	for _, one := range cases {
		y.names(one.Name)
		raise(&y.fields, len(one.Fields))
		for _, field := range one.Fields {
			raise(&y.of, len(field))
		}
	}
}

// body looks at one of a function, a const or a Lambda, with as many locals ahead as stand around it.
func (y *modesty) body(e api.Expr, params []api.Param, ahead int) {
	y.params(params)
	ahead += len(params) + capture.Locals(e)
	raise(&y.locals, ahead)
	y.expr(e, ahead)
}

func (y *modesty) expr(e api.Expr, ahead int) {
	y.names(e.Name)
	raise(&y.text, len(e.Text))
	raise(&y.of, len(e.Type))
	if e.Kind == api.List {
		raise(&y.kids, len(e.Kids))
	}
	if e.Kind == api.Lambda {
		y.lambdas++
		y.body(e.Kids[0], e.Params, ahead)
		return
	}
	for _, kid := range e.Kids {
		y.expr(kid, ahead)
	}
	for _, arm := range e.Arms {
		y.names(append(slices.Clone(arm.Vars), arm.Case)...)
		y.expr(arm.Body, ahead)
	}
}

// modestyOf counts the types of a module's Lists among its definitions' types, and the types that others show.
func modestyOf(m api.Module, l []api.Iface) modesty {
	y := modesty{definitions: len(m.Types) + len(m.Consts) + len(m.Funs), imports: len(m.Imports)}
	y.names(append(slices.Clone(m.Exports), m.Name)...)
	for _, one := range m.Imports {
		y.names(one.From, one.Name)
		at := slices.IndexFunc(l, func(i api.Iface) bool { return i.Module == one.From })
		item, _ := iface.Find(l[at], one.Name)
		raise(&y.of, len(item.Type))
		y.typeDef(item.Name, item.Cases)
	}
	for _, def := range m.Types {
		y.typeDef(def.Name, def.Cases)
	}
	definition := func(name, of string, params []api.Param, body api.Expr) {
		y.names(name)
		raise(&y.of, len(of))
		y.expressions += capture.Count(body)
		raise(&y.depth, capture.Depth(body))
		y.body(body, params, 0)
	}
	for _, def := range m.Consts {
		definition(def.Name, def.Type, nil, def.Body)
	}
	for _, def := range m.Funs {
		definition(def.Name, def.Type, def.Params, def.Body)
	}
	return y
}

// isModest leaves modules out that need more texts than an object may have: the chapter counts Lists' Kids, but not Lists.
func isModest(m api.Module, l []api.Iface) bool {
	y, most := modestyOf(m, l), mostModest()
	return y.definitions <= most.definitions && y.imports <= most.imports && y.expressions <= most.expressions && y.lambdas <= most.lambdas && y.kids <= most.kids && y.depth <= most.depth && y.locals <= most.locals &&
		y.name <= most.name && y.text <= most.text && y.of <= most.of && y.cases <= most.cases && y.fields <= most.fields && len(listTypes(m)) <= api.MaxItems
}

// wantModest: the module is a modest one, at some of the bounds of those, and is not refused.
func wantModest(t *testing.T, source string, l []api.Iface, at func(y, most modesty) bool) object.Object {
	t.Helper()
	m := read(t, source)
	if y := modestyOf(m, l); !isModest(m, l) || !at(y, mostModest()) {
		t.Errorf("%.300s: %+v", source, y)
	}
	return wantObject(t, m, l)
}

// matches is a tree of so many Matches, with texts behind their arms.
func matches(n int) string {
	if n == 0 {
		return `"0123456789"`
	}
	return "(match (Aaaaaaaa) ((Aaaaaaaa) " + matches((n-1)/3) + ") ((Bbbbbbbb aaaaaaaa bbbbbbbb) " + matches(n/3) + ") ((Cccccccc aaaaaaaa bbbbbbbb) " + matches((n+1)/3) + "))"
}

// P16.2: code of 120 expressions, of those that are longest.
func TestModestCode(t *testing.T) {
	const wide = "(type Tttttttt (Aaaaaaaa) (Bbbbbbbb num num) (Cccccccc num bytes)) "
	o := wantModest(t, "(module mmmmmmmm (export ffffffff) "+wide+"(fun ffffffff () bytes (cut "+matches(29)+" 0 1048576-1048576i)))", nil, func(y, most modesty) bool {
		return y.expressions == most.expressions && y.text == most.text && y.fields == most.fields && y.cases == most.cases && y.name == most.name
	})
	if n := len(o.Funs[0].Code); n < 1500 {
		t.Errorf("code of %d bytes alone", n)
	}
	for _, leaf := range []string{`"0123456789"`, "c", "(g)", "(call g)"} {
		row := "(len (array bytes" + strings.Repeat(" "+leaf, 6) + "))"
		wantModest(t, `(module m (const c bytes "") (fun g () bytes c) (fun f () num (len (array num`+strings.Repeat(" "+row, 6)+"))))", nil, func(y, most modesty) bool { return y.kids == most.kids })
	}
}

// P16.2: what is nested as deep as it may be, with as many values waiting as can be.
func TestModestStack(t *testing.T) {
	deepest := func(y, most modesty) bool { return y.depth == most.depth }
	const six = "(fun g ((a num) (b num) (c num) (d num) (e num) (f num)) num a)"
	for leaf, depth := range map[string]int{"1": 1, "x": 1, "(g 1 2 3 4 5 6)": 2, "(call g 1 2 3 4 5 6)": 2, "(len (array num 1 2 3 4 5 6))": 3, "(len (cut \"\" 1 2))": 3, "(match p ((P a b) (add a b)))": 3, "(call (fn ((a num)) num (add a x)) 1)": 4, "(call (fn () num (g a b c d x x)))": 4} {
		for _, ahead := range []string{"(g 1 2 3 4 5 ", "(call g 1 2 3 4 5 ", "(add 1 "} {
			body := nest(8-depth, ahead, leaf, ")")
			wantModest(t, "(module m (type P (P num num))"+six+"(fun f ((a num) (b num) (c num) (d num) (x num) (p P)) num "+body+"))", nil, deepest)
		}
	}
	list, of, ahead := "(array num 1 1 1 1 1 1)", "(array num)", "num"
	for range 6 {
		list = "(array " + of + strings.Repeat(" (array "+ahead+")", 5) + list + ")"
		ahead, of = of, "(array "+of+")"
	}
	wantModest(t, "(module m (fun f () "+of+" "+list+"))", nil, deepest)
	makes := nest(6, "(C (A) ", "(B (A) (A))", ")")
	wantModest(t, "(module m (type T (A) (B T T) (C T T)) (const c T "+makes+"))", nil, deepest)
}

// typed are parameters of one type, with a letter and a number each.
func typed(n int, letter, of string) string { return each(0, n, "("+letter+"# "+of+")") }

// P16.2: locals of functions within functions, all of which the innermost one takes along.
func TestModestLocals(t *testing.T) {
	const of = "(fn (num num num) (array (array num)))"
	row := func(n int, letter string) string { return "(array num " + each(0, n, letter+"#") + ")" }
	inner := "(fn (" + typed(3, "d", "num") + ") (array (array num)) (array (array num) " + row(6, "a") + row(6, "b") + row(6, "c") + row(3, "d") + "))"
	second := "(call (fn (" + typed(6, "c", "num") + ") " + of + " " + inner + ") 1 2 3 4 5 6)"
	first := "(call (fn (" + typed(6, "b", "num") + ") " + of + " " + second + ") (let x 1 (let y 2 (let z 3 x))) 2 3 4 5 6)"
	o := wantModest(t, "(module m (fun f ("+typed(6, "a", "num")+") "+of+" "+first+"))", nil, func(y, most modesty) bool { return y.locals == most.locals && y.depth == most.depth && y.of == most.of })
	if f := o.Funs[3]; f.Captures != 18 || f.Locals != 21 {
		t.Errorf("%+v", f)
	}
	body := "(fn (" + typed(4, "d", "num") + ") num x)"
	for k := range 6 {
		body = fmt.Sprintf("(match p ((P a%d b%d) %s))", k, k, body)
	}
	wantModest(t, "(module m (type P (P num num)) (fun f ("+typed(4, "y", "num")+"(x num) (p P)) (fn (num num num num) num) "+body+"))", nil, func(y, most modesty) bool { return y.depth == most.depth && y.locals == 22 })
}

// thirty are types of 20 bytes at most, as sources.
func thirty() (l []string) {
	for _, result := range []string{"num", "bytes", "(array num)", "(array bytes)", "(array (array num))"} {
		for _, params := range []string{"", "num", "bytes", "num num", "bytes num", "bytes bytes"} {
			l = append(l, "(fn ("+params+") "+result+")")
		}
	}
	return l
}

// P16.2: as many names, types, texts and functions as may be, in one module.
func TestModestObject(t *testing.T) {
	const of = "(num,num,num,num)num"
	const source20 = "(fn (num num num num) num)"
	shown := api.Iface{Module: "nnnnnnnn"}
	source, exports := "(module mmmmmmmm (import nnnnnnnn", "(export ffffffff ssssssss"
	for k := range 8 {
		name := fmt.Sprintf("Tttttt%02d", k)
		shown.Items = append(shown.Items, typeItem(name, caseOf("Aaaaaaaa", of, of), caseOf("Bbbbbbbb", of, of), caseOf("Cccccccc", of, of)))
		source += " " + name
	}
	source += ")"
	var units []string // of type num, six deep at most
	for k := range 4 {
		name := fmt.Sprintf("Uuuuuu%02d", k)
		exports += " " + name
		source += fmt.Sprintf("(type %s (Aaaaaa%02d F F) (Bbbbbb%02d F F) (Cccccc%02d F F)) ", name, k, k, k)
		units = append(units, fmt.Sprintf("(len (array %s (Bbbbbb%02d v0 v1)))", name, k))
		units = append(units, "(call (fn ("+typed(6, "ppppppp", source20)+") num (len (array F v0 v1 v2 v3 v4 v5))) v5 v4 v3 v2 v1 v0)")
	}
	for _, one := range thirty()[:8] {
		units = append(units, "(len (array "+one+"))")
	}
	units = append(units, `(len "0123456789")`, `(neg 1048576-1048576i)`)
	rows := ""
	for row := range slices.Chunk(units, 6) {
		rows += "(ssssssss " + strings.Join(row, " ") + ")"
	}
	source += exports + ") (fun ssssssss (" + typed(6, "aaaaaaa", "num") + ") num aaaaaaa0) (fun ffffffff (" + typed(6, "v", source20) + ") num (ssssssss " + rows + " 1 2 3)))"
	o := wantModest(t, strings.ReplaceAll(source, "F", source20), []api.Iface{shown}, func(y, most modesty) bool {
		return y.definitions == most.definitions && y.imports == most.imports && y.lambdas == most.lambdas && y.of == most.of && y.name == most.name && y.cases == most.cases && y.fields == most.fields && y.kids == most.kids
	})
	if b, _ := object.Encode(o); len(b) < 4500 {
		t.Errorf("an object of %d bytes alone", len(b))
	}
}

// P16.2: as many texts as an object may have.
func TestModestTexts(t *testing.T) {
	rows := ""
	for row := range slices.Chunk(thirty(), 6) {
		rows += "(array num"
		for _, one := range row {
			rows += " (len (array " + one + "))"
		}
		rows += ")"
	}
	o := wantModest(t, "(module m (fun f () (array (array num)) (array (array num) "+rows+")))", nil, func(y, most modesty) bool { return y.kids == most.kids })
	if len(o.Texts) != 32 {
		t.Errorf("%d texts", len(o.Texts))
	}
}
