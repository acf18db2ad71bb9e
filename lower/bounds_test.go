package lower_test

import (
	"fmt"
	"strings"
	"testing"

	"hawser/api"
)

// times is a text so often, parted by blanks.
func times(n int, text string) string { return strings.TrimSpace(strings.Repeat(text+" ", n)) }

// each is a text for each number, in which # is that number.
func each(from, to int, text string) string {
	s := ""
	for k := from; k < to; k++ {
		s += strings.ReplaceAll(text, "#", fmt.Sprint(k)) + " "
	}
	return s
}

// lets binds so many names around an expression: prefix and a number.
func lets(n int, prefix, body string) string {
	for k := range n {
		body = fmt.Sprintf("(let %s%d 1 %s)", prefix, k, body)
	}
	return body
}

const typeP = "(type P (P num num num num)) "

// binds does so too, four at once by a Match of typeP: of Lets that many would be nested too deep.
func binds(n int, prefix, body string) string {
	for k := range n / 4 {
		body = "(match (P 1 2 3 4) ((P " + each(4*k, 4*k+4, prefix+"#") + ") " + body + "))"
	}
	for k := n - n%4; k < n; k++ {
		body = fmt.Sprintf("(let %s%d 1 %s)", prefix, k, body)
	}
	return body
}

// names is an expression of so many names.
func names(n int, prefix string) string {
	return "(len (array num " + each(0, n, prefix+"#") + "))"
}

// edge is a module's items, with a number that may be so much and no more.
type edge struct {
	name  string
	most  int
	items func(n int) string
}

// wantEdges: at its number a module is let by, past it, refused.
func wantEdges(t *testing.T, why api.Errno, l []edge) {
	t.Helper()
	for _, one := range l {
		t.Run(one.name, func(t *testing.T) {
			for n := max(one.most-2, 0); n <= one.most+2; n++ {
				m := read(t, "(module m "+one.items(n)+")")
				want := api.OK
				if n > one.most {
					want = why
				}
				if got := wantLowered(t, m, others()); got != want {
					t.Errorf("%d: %v, want %v", n, got, want)
				}
			}
		})
	}
}

func fun(body string) string { return typeP + "(fun f () num " + body + ")" }

func params(n int) string { return each(0, n, "(p# num)") }

// P16.1, MaxLocals: the places of bindings, and parameters.
func TestLocals(t *testing.T) {
	wantEdges(t, api.ErrMany, []edge{
		{"lets", 24, func(n int) string { return fun(lets(n, "a", "1")) }},
		{"lets that are named", 24, func(n int) string { return fun(lets(n, "a", names(n, "a"))) }},
		{"lets of one name", 24, func(n int) string { return fun(strings.Repeat("(let a 1 ", n) + "a" + strings.Repeat(")", n)) }},
		{"lets in a const", 24, func(n int) string { return "(const c num " + lets(n, "a", "1") + ")" }},
		{"lets in a second function", 24, func(n int) string { return fun("1") + "(fun g () num " + lets(n, "a", "1") + ")" }},
		{"lets beside parameters", 18, func(n int) string { return "(fun f (" + params(6) + ") num " + lets(n, "a", "1") + ")" }},
		{"parameters beside lets", 4, func(n int) string { return "(fun f (" + params(n) + ") num " + lets(20, "a", "1") + ")" }},
		{"in a let's first", 24, func(n int) string { return fun("(let x " + lets(n, "a", "1") + " x)") }},
		{"in a let's last", 23, func(n int) string { return fun("(let x 1 " + lets(n, "a", "1") + ")") }},
		{"beside others", 24, func(n int) string { return fun("(add " + lets(24, "b", "1") + lets(n, "a", "1") + ")") }},
		{"in an if's first", 24, func(n int) string { return fun("(if " + lets(n, "a", "1") + " 1 1)") }},
		{"in an if's third", 24, func(n int) string { return fun("(if " + lets(24, "b", "1") + " 1 " + lets(n, "a", "1") + ")") }},
		{"in an arm", 20, func(n int) string { return fun("(match (P 1 2 3 4) ((P a b c d) " + lets(n, "a", "1") + "))") }},
		{"in a match's kid", 24, func(n int) string { return fun("(match " + lets(n, "a", "(P 1 2 3 4)") + " ((P a b c d) 1))") }},
		{"arms within arms", 6, func(n int) string { return fun(binds(4*n, "a", names(4*n, "a"))) }},
		{"arms of one name", 24, func(n int) string {
			return fun(strings.Repeat("(match (P 1 2 3 4) ((P a a a a) ", 5) + lets(n-20, "b", "a") + strings.Repeat("))", 5))
		}},
	})
}

// P16.1, MaxLocals: of a Lambda, with what it takes along.
func TestLocalsOfLambdas(t *testing.T) {
	of := func(params, body, args string) string {
		return "(call (fn (" + params + ") num " + body + ") " + args + ")"
	}
	six := "1 2 3 4 5 6"
	wantEdges(t, api.ErrMany, []edge{
		{"lets", 24, func(n int) string { return fun(of("", lets(n, "a", "1"), "")) }},
		{"lets beside parameters", 18, func(n int) string { return fun(of(params(6), lets(n, "a", "1"), six)) }},
		{"lets beside all that can be taken along", 0, func(n int) string {
			return fun(binds(20, "a", of("", binds(4, "b", of("", lets(n, "c", "(add "+names(20, "a")+names(4, "b")+")"), "")), "")))
		}},
		{"taken along beside parameters", 18, func(n int) string { return fun(binds(20, "a", of(params(6), names(n, "a"), six))) }},
		{"taken along beside lets", 14, func(n int) string { return fun(binds(16, "a", of("", lets(10, "b", names(n, "a")), ""))) }},
		{"lets beside what is taken along", 10, func(n int) string { return fun(binds(14, "a", of("", lets(n, "b", names(14, "a")), ""))) }},
		{"parameters beside what is taken along", 4, func(n int) string {
			return fun(binds(20, "a", of(params(n), names(20, "a"), times(n, "1"))))
		}},
		{"taken along for a Lambda within", 18, func(n int) string {
			return fun(binds(20, "a", of(params(6), of("", names(n, "a"), ""), six)))
		}},
		{"taken along by a Lambda within", 18, func(n int) string {
			return fun(binds(20, "a", of("", of(params(6), names(n, "a"), six), "")))
		}},
		{"taken along in a const", 18, func(n int) string {
			return typeP + "(const c num " + binds(20, "a", of(params(6), names(n, "a"), six)) + ")"
		}},
	})
}

// P16.1, MaxLocals: what is not taken along does not count, nor what is not bound at once.
func TestLocalsThatDontCount(t *testing.T) {
	for _, items := range []string{
		fun(binds(24, "a", "(call (fn ((x num)) num "+lets(23, "b", "x")+") 1)")),
		fun(binds(24, "a", "(call (fn () num "+names(24, "a")+"))")),
		"(const c num 1) (fun g () num 1)" + fun("(call (fn () num "+lets(24, "a", "(add c (add (g) (call g)))")+"))"),
		fun("(len (array num " + strings.Repeat(lets(24, "a", "1"), 5) + "))"),
		fun("(call (fn ((a0 num)) num " + lets(23, "b", "a0") + ") " + lets(24, "a", "a0") + ")"),
		fun(binds(12, "a", "(call (fn () num "+binds(12, "b", "(add "+names(12, "a")+" (call (fn () num (add "+names(12, "b")+names(12, "a")+"))))")+"))")),
	} {
		wantObject(t, read(t, "(module m "+items+")"), nil)
	}
}

// P16.1, MaxFuns: functions with a name, Lambdas and consts' bodies.
func TestFuns(t *testing.T) {
	row := func(n int) string { return "(len (array (fn () num) " + times(n, "(fn () num 1)") + "))" }
	wantEdges(t, api.ErrMany, []edge{
		{"Lambdas beside functions", 23, func(n int) string { return each(0, 24, "(fun f# () num 1)") + "(const c num " + row(n) + ")" }},
		{"consts beside functions", 16, func(n int) string { return each(0, 32, "(fun f# () num 1)") + each(0, n, "(const c# num 1)") }},
		{"functions beside consts", 16, func(n int) string { return each(0, 32, "(const c# num 1)") + each(0, n, "(fun f# () num 1)") }},
		{"Lambdas of functions", 24, func(n int) string { return each(0, n, "(fun f# () num (call (fn () num 1)))") }},
		{"Lambdas of consts", 24, func(n int) string { return each(0, n, "(const c# num (call (fn () num 1)))") }},
		{"Lambdas within Lambdas", 16, func(n int) string {
			return each(0, n, "(fun f# () num (call (fn () num (call (fn () num 1)))))")
		}},
		{"Lambdas side by side", 16, func(n int) string { return fun("(add " + row(31) + row(n) + ")") }},
	})
}

// P16.1, MaxSymbols: imports, and what is named of the module's own.
func TestManySymbols(t *testing.T) {
	shown := api.Iface{Module: "z"}
	for k := range 32 {
		shown.Items = append(shown.Items, constItem(fmt.Sprintf("c%02d", k), "num"))
	}
	l := []api.Iface{shown}
	row := func(kids string) string { return "(len (array num " + kids + "))" }
	source := func(imports, types, consts, funs, lambdas int) string {
		s := "(import z"
		for _, item := range shown.Items[:imports] {
			s += " " + item.Name
		}
		s += ")" + each(0, types, "(type T# (A#))") + each(0, consts, "(const c# num 1)") + each(0, funs-1, "(fun f# () num 1)")
		uses := row(each(0, types, "(let x (A#) 1)")) + row(each(0, consts, "c#")) + row(each(0, funs-1, "(f#)")) + row(times(lambdas, "(call (fn () num 1))")) + "(g)"
		return "(module m " + s + "(fun g () num " + row(uses) + "))"
	}
	for _, n := range [][5]int{{32, 16, 32, 16, 0}, {31, 17, 32, 16, 0}, {32, 32, 20, 12, 0}, {16, 32, 31, 17, 0}, {32, 31, 1, 32, 0}, {32, 16, 16, 16, 16}, {32, 17, 15, 2, 30}} {
		o := wantObject(t, read(t, source(n[0], n[1], n[2], n[3], n[4])), l)
		if len(o.Symbols) != 96 {
			t.Errorf("%v: %d symbols", n, len(o.Symbols))
		}
	}
	for _, n := range [][5]int{{32, 17, 32, 16, 0}, {32, 32, 17, 16, 0}, {17, 32, 32, 16, 0}, {32, 32, 1, 32, 0}, {32, 32, 32, 16, 0}, {32, 17, 16, 16, 16}, {32, 18, 15, 2, 30}, {32, 17, 15, 2, 31}} {
		wantRefused(t, read(t, source(n[0], n[1], n[2], n[3], n[4])), l, api.ErrMany)
	}
	unused := "(module m (import z " + each(0, 10, "c0#") + ")" + each(0, 32, "(type T# (A# num))") + each(0, 32, "(const c# num 1)") + each(0, 16, "(fun f# () num 1)") + ")"
	if o := wantObject(t, read(t, unused), l); len(o.Symbols) != 10 {
		t.Errorf("%d symbols", len(o.Symbols))
	}
}

// lengths are an expression each that needs a text of its own, from a number to another.
func lengths(from, to int) string {
	s := ""
	for k := from; k < to; k++ {
		of := "(fn ("
		for bit := range 6 {
			of += []string{"num ", "bytes "}[k>>bit&1]
		}
		s += "(len (array " + of + ") num))) "
	}
	return s
}

// P16.1, MaxItems texts, each counted once.
func TestManyTexts(t *testing.T) {
	wantEdges(t, api.ErrMany, []edge{
		{"in functions", 31, func(n int) string {
			s := ""
			for k := range 8 {
				s += fmt.Sprintf("(fun f%d () (array num) (array num %s))", k, lengths(n*k/8, n*(k+1)/8))
			}
			return s
		}},
		{"in consts and Lambdas", 31, func(n int) string {
			return "(const a (array num) (array num " + lengths(0, 9) + ")) (const b (array num) (array num " + lengths(9, 15) + ")) (fun f () (fn () (array num)) (fn () (array num) (array num " + lengths(15, n) + ")))"
		}},
	})
	same := "(module m (fun f () (array num) (array num " + times(31, "(len (array bytes))") + ")) (fun g () (array num) (array num " + times(31, "(len (array bytes (cat \"\" \"\")))") + ")))"
	if o := wantObject(t, read(t, same), nil); len(o.Texts) != 2 {
		t.Errorf("%d texts", len(o.Texts))
	}
}

// P16.1, MaxItems texts: more than a byte can tell apart are too many, too, and nothing else.
func TestVeryManyTexts(t *testing.T) {
	for _, types := range []int{4, 29, 32} {
		of, rows := "", ""
		for _, form := range strings.Split("# (array#) (array(array#)) (fn()#) (fn(#)#) (fn(num)#) (fn(#)num) (fn(bytes)#) (fn(#)bytes)", " ") {
			form = strings.ReplaceAll(form, "#", " T# ")
			rows += "(len(array num" + strings.ReplaceAll(each(0, types, "(len(array"+form+"))"), ") (", ")(") + "))"
		}
		for k := range types {
			of += fmt.Sprintf("(type T%d(A%d))", k, k)
		}
		m := read(t, "(module m "+of+"(fun f()num(len(array num "+rows+"))))")
		if n := len(listTypes(m)); n != 9*types+1 {
			t.Errorf("%d texts", n)
		}
		wantRefused(t, m, nil, api.ErrMany)
	}
}

// P16.1: 4 MaxSymbols relocations.
func TestManyRelocs(t *testing.T) {
	rows := func(n int, kid string, kids int) string {
		s := ""
		for k := 0; n > 0; k++ {
			s += fmt.Sprintf("(fun f%d () (array num) (array num %s))", k, times(min(n, kids), kid))
			n -= min(n, kids)
		}
		return s
	}
	wantEdges(t, api.ErrMany, []edge{
		{"of one const", 384, func(n int) string { return "(const a num 1)" + rows(n, "a", 31) }},
		{"of one import", 384, func(n int) string { return "(import n c)" + rows(n, "n.c", 32) }},
		{"of each kind", 64, func(n int) string { // Global, Global, Build, Switch, Call, Close
			return "(type T (A)) (import n c) (const a num 1) (fun g () num 1)" + rows(n, "(add a n.c) (match (A) ((A) (add (g) (call g))))", 6)
		}},
	})
}
