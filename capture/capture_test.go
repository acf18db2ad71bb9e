package capture_test

import (
	"fmt"
	"slices"
	"strings"
	"testing"

	"hawser/api"
	"hawser/capture"
)

// The chapter's runs.
func TestRuns(t *testing.T) {
	wantFree(t, "(let x y (add x z))", "y z")
	wantLocals(t, "(let a 1 (let b 2 a))", 2)
}

// The chapter's examples.
func TestExamples(t *testing.T) {
	wantFree(t, "(fn ((x num)) num x)", "")
	wantFree(t, "n.x", "")
	if got := capture.Depth(read(t, "1")); got != 1 {
		t.Errorf("Depth(1): %d", got)
	}
}

// P11.1: all four answers, of each kind.
func TestKinds(t *testing.T) {
	want(t, "1", "", 0, 1, 1)
	want(t, "-2i", "", 0, 1, 1)
	want(t, `"x"`, "", 0, 1, 1)
	want(t, "x", "x", 0, 1, 1)
	want(t, "n.x", "", 0, 1, 1)
	want(t, "(let x a b)", "a b", 1, 2, 3)
	want(t, "(if a b c)", "a b c", 0, 2, 4)
	want(t, "(add b a)", "b a", 0, 2, 3)
	want(t, "(cut c b a)", "c b a", 0, 2, 4)
	want(t, "(neg)", "", 0, 1, 1)
	want(t, "(array num)", "", 0, 1, 1)
	want(t, "(array (fn (T) o.U) b a b)", "b a", 0, 2, 4)
	want(t, "(C)", "", 0, 1, 1)
	want(t, "(n.C b a)", "b a", 0, 2, 3)
	want(t, "(match a ((A) b))", "a b", 0, 2, 3)
	want(t, "(match a ((A x) b) ((n.B x y z) c))", "a b c", 3, 2, 4)
	want(t, "(fn () num a)", "a", 0, 2, 2)
	want(t, "(fn ((x num) (y T)) num a)", "a", 0, 2, 2)
	want(t, "(call a)", "a", 0, 2, 2)
	want(t, "(call b a c)", "b a c", 0, 2, 4)
	want(t, "(f)", "", 0, 1, 1)
	want(t, "(n.f b a)", "b a", 0, 2, 3)
}

// P11.1: a Let binds in its last Kid alone.
func TestFreeLet(t *testing.T) {
	wantFree(t, "(let x 1 x)", "")
	wantFree(t, "(let x x 1)", "x")
	wantFree(t, "(let x x x)", "x")
	wantFree(t, "(let x y x)", "y")
	wantFree(t, "(let x 1 y)", "y")
	wantFree(t, "(let x (let x 1 x) x)", "")
	wantFree(t, "(let x (let x x 1) x)", "x")
	wantFree(t, "(let x (let y 1 y) y)", "y")
	wantFree(t, "(let x (let y x 1) (let z y x))", "x y")
	wantFree(t, "(let x 1 (let y x (add y (add x z))))", "z")
	wantFree(t, "(add (let x 1 x) x)", "x")
	wantFree(t, "(add x (let x 1 x))", "x")
}

// P11.1: an arm binds in its Body alone, not in the Kid, nor in other arms.
func TestFreeMatch(t *testing.T) {
	wantFree(t, "(match 1 ((A a) a))", "")
	wantFree(t, "(match a ((A a) a))", "a")
	wantFree(t, "(match a ((A) a))", "a")
	wantFree(t, "(match x ((A a b c d) (array num d c b a e)))", "x e")
	wantFree(t, "(match x ((A a) 1) ((B) a))", "x a")
	wantFree(t, "(match x ((A) a) ((B a) 1))", "x a")
	wantFree(t, "(match x ((A a) b) ((B b) a))", "x b a")
	wantFree(t, "(match x ((A a a a a) a) ((B a) a))", "x")
	wantFree(t, "(add (match 1 ((A a a) a)) a)", "a")
	wantFree(t, "(match (match x ((A a) a)) ((B b) a))", "x a")
	wantFree(t, "(match x ((A a) (match a ((A b) (add a b)) ((B) b))))", "x b")
	wantFree(t, "(match x ((A x) (match x ((A x) x))))", "x")
}

// P11.1: a Lambda binds in its Kid alone.
func TestFreeLambda(t *testing.T) {
	wantFree(t, "(fn () num x)", "x")
	wantFree(t, "(fn ((x num)) num (add x y))", "y")
	wantFree(t, "(fn ((a num) (b num) (c num) (d num) (e num) (f num)) num (array num f e d c b a g))", "g")
	wantFree(t, "(fn ((x num) (x bytes)) num x)", "")
	wantFree(t, "(add (fn ((x num) (x bytes)) num x) x)", "x")
	wantFree(t, "(call (fn ((x num)) num x) x)", "x")
	wantFree(t, "(call x (fn ((x num)) num x))", "x")
	wantFree(t, "(fn ((x num)) num (fn ((y num)) num (add x (add y z))))", "z")
	wantFree(t, "(fn ((x num)) num (add (fn ((y num)) num y) y))", "y")
	wantFree(t, "(let x 1 (fn () num (add x y)))", "y")
	wantFree(t, "(fn ((x (fn (T) o.U)) (y (array T))) (array o.U) (x y))", "")
}

// P11.1: a binding that hides another one ends, and the other one binds on.
func TestFreeHidden(t *testing.T) {
	wantFree(t, "(let x 1 (let x 2 x))", "")
	wantFree(t, "(let x 1 (let x x x))", "")
	wantFree(t, "(let x 1 (add (let x x y) x))", "y")
	wantFree(t, "(let x 1 (add (fn ((x num)) num x) x))", "")
	wantFree(t, "(let x 1 (add (match x ((A x x) x) ((B x) y)) x))", "y")
	wantFree(t, "(fn ((x num)) num (add (let x x (add x y)) x))", "y")
	wantFree(t, "(match 1 ((A x) (add (fn ((x num)) num (let x x x)) x)) ((B) x))", "x")
	wantFree(t, "(add (let x 1 (let x 2 (let x 3 x))) (let y x x))", "x")
}

// P11.1: each name once, where it is met first; what is bound where it is met does not count.
func TestFreeOnce(t *testing.T) {
	wantFree(t, "(call f x x y f x)", "f x y")
	wantFree(t, "(C (D y) x y)", "y x")
	wantFree(t, "(if (add c b) (f b a c) (let z a d))", "c b a d")
	wantFree(t, "(add (let x 1 (add x y)) x)", "y x")
	wantFree(t, "(add x (add (let x 1 (add x y)) x))", "x y")
	wantFree(t, "(array num (fn ((a num)) num (add a b)) a (let b 1 b) c b)", "b a c")
	wantFree(t, "(match c ((A c) (add c b)) ((B) (add a c)) ((C b) d))", "c b a d")
	wantFree(t, "(match (add d c) ((A) (match b ((A) a))) ((B) d))", "d c b a")
	wantFree(t, "(let a e (if (fn () num d) (match c ((A) b)) a))", "e d c b")
	wantFree(t, "(array num x (let x 1 x) x (fn ((x num)) num x) x (match x ((A x) x)) x)", "x")
}

// P11.1: a name with a dot is not told, and is no binding's.
func TestFreeDots(t *testing.T) {
	wantFree(t, "(add n.x x)", "x")
	wantFree(t, "(add x n.x)", "x")
	wantFree(t, "(let x 1 n.x)", "")
	wantFree(t, "(let n 1 n.x)", "")
	wantFree(t, "(add n.x n)", "n")
	wantFree(t, "(array num _._ x.x m.a a.m let.add)", "")
	wantFree(t, "(n.f n.x (n.C n.y z))", "z")
	for _, name := range []string{".", ".x", "x.", "a.b.c", ".."} {
		if got := capture.Free(api.Expr{Kind: api.Var, Name: name}); len(got) != 0 {
			t.Errorf("Free(%s): %q", name, got)
		}
	}
}

// P11.1: names of Vars alone: not of Calls, Ops, Makes, arms' cases, types or texts, nor names that are bound and not used.
func TestFreeVarsAlone(t *testing.T) {
	wantFree(t, "(f x)", "x")
	wantFree(t, "(add (f (add 1 2)) (C))", "")
	wantFree(t, "(call f f)", "f")
	wantFree(t, "(let f 1 (f f))", "")
	wantFree(t, "(let a 1 (let b 2 3))", "")
	wantFree(t, "(fn ((a num)) T 1)", "")
	wantFree(t, "(match 1 ((A a b) 1) ((n.B c) 2))", "")
	wantFree(t, `(cat "x" "y")`, "")
	wantFree(t, "(array T (array n.U))", "")
}

// P11.1: what a name may look like: words too, and letters large and small.
func TestFreeNames(t *testing.T) {
	long := strings.Repeat("n", api.MaxName)
	wantFree(t, "(array num _ x1 xX xx x _x i "+long+" "+long[1:]+")", "_ x1 xX xx x _x i "+long+" "+long[1:])
	wantFree(t, "(let "+long+" 1 (add "+long+" "+long[1:]+"))", long[1:])
	wantFree(t, "(let xx 1 (let xX 2 (array num x xx xX xxx)))", "x xxx")
	words := "let if array match fn call add sub mul neg conj re im eq lt cat len at cut num bytes module import export type const fun"
	wantFree(t, "(array num "+words+")", words)
	wantFree(t, "(add add (f f))", "add f")
}

// P11.1: the places that bindings need at once.
func TestLocals(t *testing.T) {
	for source, locals := range map[string]int{
		"(let a 1 2)":                                         1,
		"(let a (let b 1 2) 3)":                               1,
		"(let a (let b 1 (let c 2 3)) 4)":                     2,
		"(let a (let b 1 2) (let c 3 4))":                     2,
		"(let a (let b 1 (let c 2 (let d 3 4))) (let e 5 6))": 3,
		"(let a 1 (add (let b 2 3) (let c 4 (let d 5 6))))":   3,
		"(let a 1 (let a 2 (let a 3 a)))":                     3,
		"(if (let a 1 a) 2 3)":                                1,
		"(if 1 (let a 1 (let b 2 a)) (let c 1 c))":            2,
		"(if 1 2 (let a 1 a))":                                1,
		"(add (let a 1 a) (let b 1 b))":                       1,
		"(array num 1 (let a 1 a) 2)":                         1,
		"(C 1 (let a 1 (let b 1 b)))":                         2,
		"(f (let a 1 a))":                                     1,
		"(call (let a 1 a) 1)":                                1,
		"(call 1 2 (let a 1 a))":                              1,
		"(match 1 ((A) 1))":                                   0,
		"(match 1 ((A a b c d) 1))":                           4,
		"(match 1 ((A a a a) a))":                             3,
		"(match 1 ((A a) 1) ((B a b) 1) ((C) 1))":             2,
		"(match 1 ((A a) (let b 1 (let c 1 c))) ((B a b) 1))": 3,
		"(match 1 ((A a b) (match a ((A c d) (let e 1 e)))))": 5,
		"(match (let a 1 (let b 2 3)) ((A a) 1))":             2,
		"(match (match 1 ((A a b c) 1)) ((A a b) 1))":         3,
		"(let x 1 (match x ((A a b) (let y 1 y))))":           4,
	} {
		wantLocals(t, source, locals)
	}
}

// P11.1: Locals outside Lambdas.
func TestLocalsOfLambda(t *testing.T) {
	for source, locals := range map[string]int{
		"(fn ((x num) (y num)) num 1)":                                                0,
		"(fn () num (let a 1 (let b 2 a)))":                                           0,
		"(fn () num (match 1 ((A a b) a)))":                                           0,
		"(fn () num (fn ((x num)) num (let a 1 a)))":                                  0,
		"(let a (fn () num (let b 1 (let c 2 3))) 4)":                                 1,
		"(let a 1 (fn ((x num)) num (let b 1 b)))":                                    1,
		"(match 1 ((A a) (fn () num (let b 1 b))) ((B) 1))":                           1,
		"(call (fn ((x num)) num (let a 1 (let b 2 3))) (let c 1 c))":                 1,
		"(add (fn () num (let a 1 a)) 1)":                                             0,
		"(let a (let b 1 (let c (fn () num (let d 1 (let e 2 (let f 3 4)))) c)) 5)":   2,
		"(if (fn () num (let a 1 (let b 1 b))) (let c 1 c) (fn ((x num)) num x))":     1,
		"(array num (match (fn () num (let a 1 a)) ((A) (fn () num (let a 1 a)))))":   0,
		"(C (let a (fn () num (match 1 ((A a b c d) (let e 1 e)))) (let b a (f b))))": 2,
	} {
		wantLocals(t, source, locals)
	}
}

// P11.1: Depth goes into all Kids and Bodies, Lambdas' too; Count counts all of them.
func TestDepthAndCount(t *testing.T) {
	want(t, "(let a (neg (neg 1)) 2)", "", 1, 4, 5)
	want(t, "(let a 1 (neg (neg 2)))", "", 1, 4, 5)
	want(t, "(if (neg 1) 2 3)", "", 0, 3, 5)
	want(t, "(if 1 (neg 2) 3)", "", 0, 3, 5)
	want(t, "(if 1 2 (neg 3))", "", 0, 3, 5)
	want(t, "(match (neg 1) ((A) 2) ((B) 3))", "", 0, 3, 5)
	want(t, "(match 1 ((A) (neg 2)) ((B) 3))", "", 0, 3, 5)
	want(t, "(match 1 ((A) 2) ((B) (neg (neg 3))))", "", 0, 4, 6)
	want(t, "(fn ((x num)) num (neg (neg x)))", "", 0, 4, 4)
	want(t, "(call (fn () num (neg 1)))", "", 0, 4, 4)
	want(t, "(f 1 (neg 2) (C (neg 3) 4) 5)", "", 0, 4, 9)
	want(t, "(array num"+strings.Repeat(" 1", 32)+")", "", 0, 2, 33)
	want(t, "(match x ((A) 1) ((B) 1) ((C) 1) ((D) 1) ((E) 1) ((F) 1))", "x", 0, 2, 8)
	want(t, "(add (add x x) (add x x))", "x", 0, 3, 7)
}

// P11.2: by hand: what is free in a part, and where it goes.
func TestWhatFollows(t *testing.T) {
	whole := read(t, "(let x a (match b ((A y) (fn ((z num)) num (array num x y z c n.d)))))")
	inner := whole.Kids[1].Arms[0].Body.Kids[0]
	for _, w := range []struct {
		e    api.Expr
		free string
	}{{inner, "x y z c"}, {whole.Kids[1].Arms[0].Body, "x y c"}, {whole.Kids[1], "b x c"}, {whole.Kids[0], "a"}, {whole, "a b c"}} {
		if got := capture.Free(w.e); !slices.Equal(got, strings.Fields(w.free)) {
			t.Errorf("Free: %q, want %q", got, w.free)
		}
	}
	wantFollows(t, whole)
}

// R1, R4: expressions that have no Kids and no Arms, of each Kind and of none; nil and empty lists alike.
func TestNothingWithin(t *testing.T) {
	for _, kind := range []int{-1, 0, api.Number, api.Text, api.Let, api.If, api.Op, api.List, api.Make, api.Match, api.Lambda, api.Apply, api.Call, api.Call + 1, 1 << 40} {
		for _, e := range []api.Expr{{Kind: kind}, {Kind: kind, Kids: []api.Expr{}, Arms: []api.Arm{}, Params: []api.Param{}}, {Kind: kind, Name: "x", Text: "y", Type: "z", At: -7, N: 1i}, {Kind: kind, Name: "x", Params: []api.Param{{Name: "p", Type: "num"}}}} {
			if got := answers(e); got != told(nil, 0, 1, 1) {
				t.Errorf("%+v: %s", e, got)
			}
		}
	}
	empty := api.Expr{Kind: api.Match, Kids: []api.Expr{{}}, Arms: []api.Arm{{}, {Vars: []string{}}, {Vars: []string{"a"}}}}
	if got := answers(empty); got != told(nil, 1, 2, 5) {
		t.Error(got)
	}
}

// R5: where an expression stands does not count.
func TestPlaces(t *testing.T) {
	for _, ahead := range []string{"", " \n", ";a remark\n   "} {
		want(t, ahead+"(let x y"+ahead+"(match x((A a)"+ahead+"(add a z))))", "y z", 2, 4, 7)
	}
}

// R1: so many names and bindings that each must be looked for once.
func TestMany(t *testing.T) {
	const many = 200000
	var names []string
	wide := api.Expr{Kind: api.Op, Name: "add"}
	arms := api.Expr{Kind: api.Match, Kids: []api.Expr{{Kind: api.Number}}}
	lambda := api.Expr{Kind: api.Lambda, Type: "num"}
	for k := range many {
		name := fmt.Sprint("x", k)
		one := api.Expr{Kind: api.Var, Name: name}
		names, wide.Kids = append(names, name), append(wide.Kids, one, one)
		arms.Arms = append(arms.Arms, api.Arm{Case: "A", Vars: []string{"x0", name}, Body: one})
		lambda.Params = append(lambda.Params, api.Param{Name: name, Type: "num"})
	}
	lambda.Kids = []api.Expr{wide}
	for _, w := range []struct {
		e                    api.Expr
		free                 []string
		locals, depth, count int
	}{{wide, names, 0, 2, 2*many + 1}, {arms, nil, 2, 2, many + 2}, {lambda, nil, 0, 3, 2*many + 2}} {
		if got := answers(w.e); got != told(w.free, w.locals, w.depth, w.count) {
			t.Errorf("%d: %.100s", w.e.Kind, got)
		}
	}
}
