package parse_test

import (
	"fmt"
	"strings"
	"testing"
	"unsafe"

	"hawser/api"
	"hawser/lex"
	"hawser/parse"
	"hawser/tree"
)

func list(at int, kids ...tree.Tree) tree.Tree {
	return tree.Tree{Kind: lex.Open, At: at, Kids: kids}
}

func atom(at int, text string) tree.Tree { return tree.Tree{Kind: lex.Atom, At: at, Text: text} }

func quoted(at int, text string) tree.Tree { return tree.Tree{Kind: lex.Quoted, At: at, Text: text} }

func parsed(t *testing.T, s string) tree.Tree {
	t.Helper()
	x, why, at := tree.Parse(s)
	if why != api.OK {
		t.Fatalf("Parse(%.80q): %v at %d", s, why, at)
	}
	return x
}

// told tells all of an answer, places too; nil and empty lists alike.
func told(answer any) string { return fmt.Sprintf("%+v", answer) }

// wantRead: as wantTree, of a source, and also as the Body of a const, which is printed and read again.
func wantRead(t *testing.T, s string, want api.Expr) {
	t.Helper()
	wantTree(t, parsed(t, s), want)
	m, why, at := parse.Module("(module m(const c num " + s + "))")
	if why != api.OK {
		t.Errorf("Module of %.80q: %v at %d", s, why, at)
		return
	}
	if got := told(placeless(m.Consts[0].Body)); got != told(placeless(want)) {
		t.Errorf("Module of %.80q: %s, want %s", s, got, told(placeless(want)))
	}
	wantRound(t, m)
}

func wantTree(t *testing.T, x tree.Tree, want api.Expr) {
	t.Helper()
	if got, why, at := parse.Expr(x, "m"); told(got) != told(want) || why != api.OK || at != 0 {
		t.Errorf("Expr(%.80s): %s, %v at %d, want %s", tree.Print(x), told(got), why, at, told(want))
	}
}

// wantNone: as wantRefusal, of a source, and also as the Body of a const and of a function.
func wantNone(t *testing.T, s string, why api.Errno, at int) {
	t.Helper()
	wantRefusal(t, parsed(t, s), why, at)
	for _, ahead := range []string{"(module m (const c num ", "(module m (export c) (fun f ((x num)) num "} {
		wantRefused(t, ahead+s+"))", why, len(ahead)+at)
	}
}

func wantRefusal(t *testing.T, x tree.Tree, why api.Errno, at int) {
	t.Helper()
	if got, gotWhy, gotAt := parse.Expr(x, "m"); told(got) != told(api.Expr{}) || gotWhy != why || gotAt != at {
		t.Errorf("Expr(%.80s): %s, %v at %d, want %v at %d", tree.Print(x), told(got), gotWhy, gotAt, why, at)
	}
}

func number(at int, n complex128) api.Expr { return api.Expr{Kind: api.Number, At: at, N: n} }

func text(at int, s string) api.Expr { return api.Expr{Kind: api.Text, At: at, Text: s} }

func name(at int, s string) api.Expr { return api.Expr{Kind: api.Var, At: at, Name: s} }

func call(kind, at int, s string, kids ...api.Expr) api.Expr {
	return api.Expr{Kind: kind, At: at, Name: s, Kids: kids}
}

func TestRunExpr(t *testing.T) {
	wantRead(t, `(add x 2i)`, call(api.Op, 0, "add", name(5, "x"), number(7, 2i)))
}

func TestExamplesExpr(t *testing.T) {
	wantRead(t, `(f)`, call(api.Call, 0, "f"))
	wantNone(t, `(let add 1 2)`, api.ErrName, 5)
}

// P6.1: Number, Text and Var.
func TestExprSingle(t *testing.T) {
	for s, n := range map[string]complex128{"0": 0, "7": 7, "-3": -3, "007": 7, "2i": 2i, "-2i": -2i, "1+2i": 1 + 2i, "-1-2i": -1 - 2i, "3+0i": 3, "0+1i": 1i, "-0": 0, "-0-0i": 0, "1048576-1048576i": 1048576 - 1048576i} {
		wantRead(t, s, number(0, n))
	}
	for s, b := range map[string]string{`""`: "", `"a"`: "a", `"add"`: "add", `"12"`: "12", `"(x"`: "(x", `"\"\\\n\x00\xff;"`: "\"\\\n\x00\xff;"} {
		wantRead(t, s, text(0, b))
	}
	long := strings.Repeat("a", api.MaxText)
	wantRead(t, `"`+long+`"`, text(0, long))
	name24 := strings.Repeat("n", api.MaxName)
	for _, s := range []string{"x", "_", "x1", "aB_9", "n.x", "_._", "i", "e1", name24, name24 + "." + name24} {
		wantRead(t, s, name(0, s))
	}
	for _, s := range []string{"X", "Xyz", "n.X", "N.x", "N.X", ".", "x.", ".x", "n.x.y", "n..x", "n. ", "1x", "-", "+1", "1.5", "1+", "1+2", "x-y", "é", "'", "1048577", "0+1048577i", name24 + "n", name24 + "n.x", "x." + name24 + "n", ""} {
		wantRefusal(t, atom(7, s), api.ErrForm, 7)
	}
	for _, s := range []string{"X", "n.X", "N.x", ".", "x.", ".x", "n.x.y", "n..x", "1x", "-", "1.5", "x-y", "'", "1048577", name24 + "n"} {
		wantNone(t, s, api.ErrForm, 0)
	}
}

// P6.1: each form that begins with a word, its fields and its places.
func TestExprWords(t *testing.T) {
	wantRead(t, `(let x 1 x)`, call(api.Let, 0, "x", number(7, 1), name(9, "x")))
	wantRead(t, `(if x 1 "a")`, call(api.If, 0, "", name(4, "x"), number(6, 1), text(8, "a")))
	wantRead(t, `(array num)`, api.Expr{Kind: api.List, Type: "num"})
	wantRead(t, `(array T x 1)`, api.Expr{Kind: api.List, Type: "m.T", Kids: []api.Expr{name(9, "x"), number(11, 1)}})
	wantRead(t, `(array (fn (T) (array o.U)) x)`, api.Expr{Kind: api.List, Type: "(m.T)[o.U]", Kids: []api.Expr{name(28, "x")}})
	wantRead(t, `(match x ((A) 1))`, api.Expr{Kind: api.Match, Kids: []api.Expr{name(7, "x")}, Arms: []api.Arm{{Case: "A", Body: number(14, 1)}}})
	wantRead(t, `(match x ((o.A a b) 1) ((B) b) ((A a a a a) "c"))`, api.Expr{Kind: api.Match, Kids: []api.Expr{name(7, "x")}, Arms: []api.Arm{
		{Case: "o.A", Vars: []string{"a", "b"}, Body: number(20, 1)}, {Case: "B", Body: name(28, "b")}, {Case: "A", Vars: []string{"a", "a", "a", "a"}, Body: text(44, "c")}}})
	wantRead(t, `(fn () num 1)`, api.Expr{Kind: api.Lambda, Type: "num", Kids: []api.Expr{number(11, 1)}})
	wantRead(t, `(fn ((x num) (y T)) (array bytes) x)`, api.Expr{Kind: api.Lambda, Type: "[bytes]", Params: []api.Param{{Name: "x", Type: "num"}, {Name: "y", Type: "m.T"}}, Kids: []api.Expr{name(34, "x")}})
	wantRead(t, `(fn ((x (fn () o.T)) (x bytes)) T (f))`, api.Expr{Kind: api.Lambda, Type: "m.T", Params: []api.Param{{Name: "x", Type: "()o.T"}, {Name: "x", Type: "bytes"}}, Kids: []api.Expr{call(api.Call, 34, "f")}})
	wantRead(t, `(call f)`, call(api.Apply, 0, "", name(6, "f")))
	wantRead(t, `(call (g) 1 y)`, call(api.Apply, 0, "", call(api.Call, 6, "g"), number(10, 1), name(12, "y")))
	wantRead(t, `(call 1)`, call(api.Apply, 0, "", number(6, 1)))
}

// P6.1: Op, Make and Call; a word behind a point is none.
func TestExprCalls(t *testing.T) {
	for _, op := range strings.Fields("add sub mul neg conj re im eq lt cat len at cut") {
		wantRead(t, "("+op+")", call(api.Op, 0, op))
		wantRead(t, "("+op+" x)", call(api.Op, 0, op, name(len(op)+2, "x")))
		wantRead(t, "("+op+" "+op+")", call(api.Op, 0, op, name(len(op)+2, op)))
		wantRead(t, "(n."+op+" 1)", call(api.Call, 0, "n."+op, number(len(op)+4, 1)))
		wantRead(t, "("+op+".x 1)", call(api.Call, 0, op+".x", number(len(op)+4, 1)))
		wantRead(t, "("+op+".X 1)", call(api.Make, 0, op+".X", number(len(op)+4, 1)))
	}
	wantRead(t, `(C)`, call(api.Make, 0, "C"))
	wantRead(t, `(Add 1 "b")`, call(api.Make, 0, "Add", number(5, 1), text(7, "b")))
	wantRead(t, `(n.C 1 (D x))`, call(api.Make, 0, "n.C", number(5, 1), call(api.Make, 7, "D", name(10, "x"))))
	wantRead(t, `(f 1 2)`, call(api.Call, 0, "f", number(3, 1), number(5, 2)))
	wantRead(t, `(n.f x)`, call(api.Call, 0, "n.f", name(5, "x")))
	for _, s := range []string{"adds", "ad", "_add", "lets", "_", "i", "fu", "numb", "n.num", "let.x", "num.let", "module.fun"} {
		wantRead(t, "("+s+" 1)", call(api.Call, 0, s, number(len(s)+2, 1)))
	}
	for _, head := range []string{"1", "-2i", "X.y", "X.Y", "n.x.y", ".x", "x.", "n.C.D", "x-y", "+", "1x", "é", ""} {
		wantRefusal(t, list(3, atom(4, head), atom(5, "1")), api.ErrForm, 3)
	}
}

var words = strings.Fields("let if array match fn call add sub mul neg conj re im eq lt cat len at cut num bytes module import export type const fun")

// P6.1: a word may be a Var's, but no name that is bound, nor what is called.
func TestExprOfWords(t *testing.T) {
	for _, word := range words {
		wantRead(t, word, name(0, word))
		wantRead(t, "(f "+word+" n."+word+" "+word+".n)", call(api.Call, 0, "f", name(3, word), name(len(word)+4, "n."+word), name(2*len(word)+7, word+".n")))
		wantNone(t, "(let "+word+" 1 2)", api.ErrName, 5)
		wantNone(t, "(match x ((A "+word+") 1))", api.ErrName, 13)
		wantNone(t, "(match x ((A a "+word+" b) 1))", api.ErrName, 15)
		wantNone(t, "(fn (("+word+" num)) num 1)", api.ErrName, 6)
		wantNone(t, "(fn ((x num) ("+word+" num)) num 1)", api.ErrName, 14)
		if !opRule.MatchString(word) {
			wantNone(t, "("+word+")", api.ErrForm, 0)
		}
	}
	for _, word := range strings.Fields("num bytes module import export type const fun") {
		for n := range 7 {
			wantNone(t, "("+word+strings.Repeat(" x", n)+")", api.ErrForm, 0)
			wantNone(t, "("+word+strings.Repeat(" ()", n)+")", api.ErrForm, 0)
		}
	}
}

// P6.1: the places are the trees', also behind blanks and remarks, and whatever they are.
func TestExprPlaces(t *testing.T) {
	wantRead(t, "\n (f ; a remark\n\t\"b\"(g\n1)x)", call(api.Call, 2, "f", text(17, "b"), call(api.Call, 20, "g", number(23, 1)), name(25, "x")))
	wantTree(t, list(-5, atom(9, "if"), atom(1<<40, "x"), list(0, atom(7, "f"), atom(-1, "y")), quoted(3, "a")), call(api.If, -5, "", name(1<<40, "x"), call(api.Call, 0, "f", name(-1, "y")), text(3, "a")))
	wantRefusal(t, list(0, atom(0, "f"), list(-7)), api.ErrForm, -7)
	wantRefusal(t, list(0, atom(0, "let"), atom(1<<40, "add"), atom(0, "x"), atom(0, "x")), api.ErrName, 1<<40)
}

// P6.1 and R3: too few and too many Kids, of each form.
func TestExprKids(t *testing.T) {
	for n := range 9 {
		kids := strings.Repeat(" x", n)
		for _, c := range []struct {
			s     string
			right bool
		}{
			{"(let" + kids + ")", n == 3}, {"(if" + kids + ")", n == 3}, {"(array num" + kids + ")", true}, {"(match x" + strings.Repeat(" ((A) x)", n) + ")", 0 < n && n <= 6},
			{"(fn ()" + strings.Repeat(" num", n) + ")", n == 2}, {"(fn () num" + kids + ")", n == 1}, {"(call" + kids + ")", 0 < n && n <= 7}, {"(neg" + kids + ")", true},
			{"(f" + kids + ")", n <= 6}, {"(C" + kids + ")", n <= 4}, {"(n.f" + kids + ")", n <= 6}, {"(n.C" + kids + ")", n <= 4},
		} {
			_, why, at := parse.Expr(parsed(t, c.s), "m")
			if (why == api.OK) != c.right || at != 0 {
				t.Errorf("%s: %v at %d", c.s, why, at)
			}
		}
	}
	for _, s := range []string{"()", "(let)", "(let x)", "(let x 1)", "(let x 1 2 3)", "(if)", "(if 1)", "(if 1 2)", "(if 1 2 3 4)", "(array)", "(match)", "(match x)", "(fn)", "(fn ())", "(fn () num)", "(fn () num 1 2)", "(fn num 1)", "(call)", "((f))", "((f) 1)", "(() 1)", `("f")`, `("f" 1)`, `("add" 1 2)`, `("C")`} {
		wantNone(t, s, api.ErrForm, 0)
	}
	for _, s := range []string{"()", "((A))", "((A) 1 2)", "(A 1)", "(A)", "A", "1", `"A"`, `("A" 1)`} {
		wantNone(t, "(match x "+s+")", api.ErrForm, 9)
		wantNone(t, "(match x ((B) 1) "+s+")", api.ErrForm, 17)
	}
	for _, s := range []string{"()", "((A))", "((A) b)", "(A (b))", `("A")`, `(A "b")`, `(A b "c")`, "(A b ())"} {
		wantNone(t, "(match x ("+s+" 1))", api.ErrForm, 10)
		wantNone(t, "(match x ((B b) b) ("+s+" 1))", api.ErrForm, 20)
	}
	for _, s := range []string{"()", "(x)", "(x num num)", "x", `"x"`, "((x) num)", `("x" num)`, "(() num)"} {
		wantNone(t, "(fn ("+s+") num 1)", api.ErrForm, 5)
		wantNone(t, "(fn ((y num) "+s+") num 1)", api.ErrForm, 13)
	}
	for _, s := range []string{`(let (x) 1 2)`, `(let () 1 2)`, `(let "x" 1 2)`, `(fn x num 1)`, `(fn "x" num 1)`} {
		wantNone(t, s, api.ErrForm, 0)
	}
}

// P6.2: as many as may be, and one more: ErrCount at the whole, ahead of its parts.
func TestExprCounts(t *testing.T) {
	for _, c := range []struct {
		ahead, piece, behind string
		most, at             int
	}{
		{"(array num", " 1", ")", 32, 0}, {"(match x", " ((A) 1)", ")", 6, 0}, {"(C", " 1", ")", 4, 0}, {"(n.C", " 1", ")", 4, 0}, {"(f", " 1", ")", 6, 0}, {"(n.f", " 1", ")", 6, 0},
		{"(call f", " 1", ")", 6, 0}, {"(fn (", "(x num)", ") num 1)", 6, 0}, {"(match x ((A", " a", ") 1))", 4, 9}, {"(match x ((B) 1) ((A", " a", ") 1))", 4, 17},
	} {
		for n := range c.most + 1 {
			wantAsByCalls(t, c.ahead+strings.Repeat(c.piece, n)+c.behind)
		}
		if _, why, at := parse.Expr(parsed(t, c.ahead+strings.Repeat(c.piece, c.most)+c.behind), "m"); why != api.OK {
			t.Errorf("%s: %v at %d", c.ahead, why, at)
		}
		wantNone(t, c.ahead+strings.Repeat(c.piece, c.most+1)+c.behind, api.ErrCount, c.at)
		wantNone(t, c.ahead+strings.Repeat(" ()", c.most+1)+c.behind, api.ErrCount, c.at)
		wantNone(t, c.ahead+strings.Repeat(c.piece, 200)+c.behind, api.ErrCount, c.at)
	}
	for _, s := range []string{"(array x" + strings.Repeat(" 1", 33) + ")", "(match ()" + strings.Repeat(" ()", 7) + ")", "(call ()" + strings.Repeat(" ()", 7) + ")", "(fn (" + strings.Repeat("()", 7) + ") x ())"} {
		wantNone(t, s, api.ErrCount, 0)
	}
	wantNone(t, "(match x ((a 1 2 3 4 5) ()))", api.ErrCount, 9)
	wantNone(t, "(match x (((A) 1 2 3 4 5) ()))", api.ErrCount, 9)
	wantNone(t, "(match x ((A 1 2 3 4 5) 1 2))", api.ErrForm, 9)
	wantNone(t, "(match X ((A 1 2 3 4 5) 1))", api.ErrForm, 7)
	wantNone(t, "(fn ("+strings.Repeat("()", 7)+") num)", api.ErrForm, 0)
	many := make([]api.Expr, 200)
	for i := range many {
		many[i] = number(5+2*i, 1)
	}
	wantRead(t, "(cut"+strings.Repeat(" 1", 200)+")", call(api.Op, 0, "cut", many...))
}

// P6.1: the module's name is put ahead of a Big, whatever it is.
func TestExprModule(t *testing.T) {
	for _, module := range []string{"", "m", "num", "M", "x y", strings.Repeat("m", api.MaxText-2)} {
		for _, s := range []string{"(array T)", "(fn () T 1)", "(fn ((x T)) T 1)", "(f (array T (array T)))"} {
			want := told(exprByCalls(parsed(t, s), module))
			if got, why, at := parse.Expr(parsed(t, s), module); told(got) != want || why != api.OK || at != 0 {
				t.Errorf("Expr(%s, %q): %s, %v at %d", s, module, told(got), why, at)
			}
		}
	}
	long := strings.Repeat("m", api.MaxText-1)
	if got, why, at := parse.Expr(parsed(t, "(fn ((x o.T) (y T)) x ())"), long); why != api.ErrLong || at != 16 || got.Kind != 0 {
		t.Errorf("%s, %v at %d", told(got), why, at)
	}
}

// P6.1 and R1: trees as tree.Parse makes none: other Kinds, Atoms with Kids, an Open with a Text.
func TestExprOtherTrees(t *testing.T) {
	kids := []tree.Tree{atom(3, "f"), atom(4, "1")}
	x := atom(6, "x")
	for _, kind := range []int{0, lex.Close, lex.Quoted + 1, -1, lex.Atom + 256, lex.Open - 256, 1 << 62, -1 << 63} {
		other := tree.Tree{Kind: kind, At: 9, Text: "x", Kids: kids}
		wantRefusal(t, other, api.ErrForm, 9)
		wantRefusal(t, list(1, atom(2, "f"), x, other), api.ErrForm, 9)
		wantRefusal(t, list(1, other, x), api.ErrForm, 1)
		wantRefusal(t, list(1, atom(2, "let"), other, x, x), api.ErrForm, 1)
		wantRefusal(t, list(1, atom(2, "fn"), other, atom(3, "num"), x), api.ErrForm, 1)
		wantRefusal(t, list(1, atom(2, "fn"), list(3, other), atom(3, "num"), x), api.ErrForm, 9)
		wantRefusal(t, list(1, atom(2, "fn"), list(3, list(5, other, x)), atom(3, "num"), x), api.ErrForm, 5)
		wantRefusal(t, list(1, atom(2, "fn"), list(3), other, x), api.ErrForm, 9)
		wantRefusal(t, list(1, atom(2, "match"), x, other), api.ErrForm, 9)
		wantRefusal(t, list(1, atom(2, "match"), x, list(5, other, x)), api.ErrForm, 5)
		wantRefusal(t, list(1, atom(2, "match"), x, list(5, list(7, other), x)), api.ErrForm, 7)
		wantRefusal(t, list(1, atom(2, "match"), x, list(5, list(7, atom(8, "A"), other), x)), api.ErrForm, 7)
	}
	wantRefusal(t, tree.Tree{}, api.ErrForm, 0)
	wantRefusal(t, tree.Tree{Kind: lex.Open, At: 2, Text: "x", Kids: []tree.Tree{}}, api.ErrForm, 2)
	wantTree(t, tree.Tree{Kind: lex.Atom, Text: "x", Kids: kids}, name(0, "x"))
	wantTree(t, tree.Tree{Kind: lex.Quoted, Text: "x", Kids: kids}, text(0, "x"))
	wantTree(t, tree.Tree{Kind: lex.Open, Text: "x", Kids: kids}, call(api.Call, 0, "f", number(4, 1)))
	wantTree(t, list(0, atom(0, "fn"), tree.Tree{Kind: lex.Open, Text: "x"}, atom(0, "num"), x), api.Expr{Kind: api.Lambda, Type: "num", Kids: []api.Expr{name(6, "x")}})
	wantTree(t, quoted(1, strings.Repeat("a", api.MaxText+1)), text(1, strings.Repeat("a", api.MaxText+1)))
	wantRefusal(t, list(1, atom(2, "let"), atom(5, ""), x, x), api.ErrName, 5)
	wantRefusal(t, list(1, atom(2, "fn"), list(3, list(4, atom(5, ""), x)), x, x), api.ErrName, 5)
	wantRefusal(t, list(1, atom(2, "match"), x, list(3, list(4, atom(5, "")), x)), api.ErrName, 5)
	wantRefusal(t, list(1, atom(2, "match"), x, list(3, list(4, atom(4, "A"), atom(5, "")), x)), api.ErrName, 5)
	wantRefusal(t, list(1, atom(5, ""), x), api.ErrForm, 1)
	wantRefusal(t, atom(1, "x\x00"), api.ErrForm, 1)
	wantRefusal(t, atom(1, "1 "), api.ErrForm, 1)
}

// wrap puts x into each form in turn, at its deepest place.
func wrap(x tree.Tree, i int) tree.Tree {
	leaf := atom(1, "x")
	switch i % 8 {
	case 0:
		return list(1, atom(1, "let"), leaf, leaf, x)
	case 1:
		return list(1, atom(1, "if"), leaf, leaf, x)
	case 2:
		return list(1, atom(1, "array"), atom(1, "T"), x)
	case 3:
		return list(1, atom(1, "match"), leaf, list(1, list(1, atom(1, "A"), leaf), x))
	case 4:
		return list(1, atom(1, "fn"), list(1, list(1, leaf, atom(1, "T"))), atom(1, "T"), x)
	case 5:
		return list(1, atom(1, "call"), x, leaf)
	case 6:
		return list(1, atom(1, "match"), x, list(1, list(1, atom(1, "A")), leaf))
	}
	return list(1, atom(1, "neg"), x)
}

// within is what wrap put x into, i times over: the expression at the place where x stood.
func within(e api.Expr, times int) api.Expr {
	for range times {
		if e.Kind == api.Match && len(e.Arms[0].Vars) > 0 {
			e = e.Arms[0].Body
		} else if e.Kind == api.Apply || e.Kind == api.Match {
			e = e.Kids[0]
		} else {
			e = e.Kids[len(e.Kids)-1]
		}
	}
	return e
}

// R1: far deeper than a source: what is refused within is told as well.
func TestExprDeep(t *testing.T) {
	right, wrong := atom(7, "y"), list(9)
	deep := 0
	for _, next := range []int{1, 2, 3, 4, 5, 6, 7, 8, api.MaxNest, 1 << 10, 1 << 16, 1 << 18} {
		for ; deep < next; deep++ {
			right, wrong = wrap(right, deep), wrap(wrong, deep)
		}
		e, why, at := parse.Expr(right, "m")
		if why != api.OK || at != 0 || told(within(e, deep)) != told(name(7, "y")) {
			t.Errorf("%d deep: %v at %d", deep, why, at)
		}
		if e, why, at := parse.Expr(wrong, "m"); why != api.ErrForm || at != 9 || told(e) != told(api.Expr{}) {
			t.Errorf("%d deep: %v at %d", deep, why, at)
		}
	}
}

// R1: far wider than a source.
func TestExprWide(t *testing.T) {
	many := make([]tree.Tree, 1<<18)
	for i := range many {
		many[i] = atom(i, "x")
	}
	for head, why := range map[string]api.Errno{"let": api.ErrForm, "if": api.ErrForm, "fn": api.ErrForm, "num": api.ErrForm, "match": api.ErrCount, "call": api.ErrCount, "array": api.ErrCount, "f": api.ErrCount, "C": api.ErrCount} {
		many[0].Text = head
		wantRefusal(t, list(-1, many...), why, -1)
	}
	many[0].Text = "add"
	e, why, at := parse.Expr(list(-1, many...), "m")
	if why != api.OK || at != 0 || len(e.Kids) != len(many)-1 || told(e.Kids[len(e.Kids)-1]) != told(name(len(many)-1, "x")) {
		t.Errorf("%d Kids, %v at %d", len(e.Kids), why, at)
	}
	many[len(many)-1].Text, many[len(many)-2].Text = "X", "Y"
	wantRefusal(t, list(-1, many...), api.ErrForm, len(many)-2)
}

const everything = `(f "Text" (let y 1 y) (if 1 2 3) (array (array T) x y) (match z ((A a b) (neg a)) ((n.B c d) (call f a))) (fn ((x num) (y (fn (T) U))) (array bytes) (n.C x (D y y))))`

// scribble writes over an expression's lists, spare room included.
func scribble(e api.Expr) {
	for _, kid := range e.Kids {
		scribble(kid)
	}
	for _, arm := range e.Arms {
		scribbleNames(arm.Vars)
		scribble(arm.Body)
	}
	for i := range e.Kids[:cap(e.Kids)] {
		e.Kids[:cap(e.Kids)][i] = text(-1, "scribbled")
	}
	for i := range e.Arms[:cap(e.Arms)] {
		e.Arms[:cap(e.Arms)][i] = api.Arm{Case: "scribbled"}
	}
	for i := range e.Params[:cap(e.Params)] {
		e.Params[:cap(e.Params)][i] = api.Param{Name: "scribbled"}
	}
}

func scribbleNames(l []string) {
	for i := range l[:cap(l)] {
		l[:cap(l)][i] = "scribbled"
	}
}

// R2: what is written into one part of an answer is seen in no other one, nor in another answer.
func TestExprSharesNoLists(t *testing.T) {
	x := parsed(t, everything)
	want, _, _ := parse.Expr(x, "m")
	kept := told(want)
	for i := range want.Kids {
		got, _, _ := parse.Expr(x, "m")
		scribble(got.Kids[i])
		got.Kids[i] = want.Kids[i]
		if told(got) != kept {
			t.Errorf("Kid %d shares memory with another one: %s", i, told(got))
		}
	}
	for _, i := range []int{0, 1} {
		got, _, _ := parse.Expr(x, "m")
		arms := got.Kids[4].Arms
		scribbleNames(arms[i].Vars)
		scribble(arms[i].Body)
		arms[i] = want.Kids[4].Arms[i]
		if told(got) != kept {
			t.Errorf("arm %d shares memory with another one: %s", i, told(got))
		}
	}
	scribble(want)
	if got, _, _ := parse.Expr(x, "m"); told(got) != kept {
		t.Errorf("an answer shares memory with another one: %s", told(got))
	}
}

// R2: no text of an answer is one that was handed in, and what was handed in is not changed, spare room included.
func TestExprKeepsNothing(t *testing.T) {
	x := parsed(t, everything)
	room := append(make([]tree.Tree, 0, len(x.Kids)+2), x.Kids...)
	room = append(room, atom(9, "spare"), list(9, atom(9, "spare")))
	x.Kids = room[:len(x.Kids)]
	want := told(room)
	handed := map[*byte]int{}
	var keep func(x tree.Tree)
	keep = func(x tree.Tree) {
		handed[unsafe.StringData(x.Text)]++
		for _, kid := range x.Kids {
			keep(kid)
		}
	}
	keep(x)
	e, _, _ := parse.Expr(x, "m")
	for _, s := range textsOf(e) {
		if s != "" && handed[unsafe.StringData(s)] > 0 {
			t.Errorf("%q is what was handed in", s)
		}
	}
	if told(room) != want {
		t.Errorf("changed: %s", told(room))
	}
	scribble(e)
	if told(room) != want {
		t.Errorf("shared: %s", told(room))
	}
}

// textsOf is every text within an expression.
func textsOf(e api.Expr) []string {
	l := []string{e.Name, e.Text, e.Type}
	for _, param := range e.Params {
		l = append(l, param.Name, param.Type)
	}
	for _, arm := range e.Arms {
		l = append(append(l, arm.Case), arm.Vars...)
		l = append(l, textsOf(arm.Body)...)
	}
	for _, kid := range e.Kids {
		l = append(l, textsOf(kid)...)
	}
	return l
}
