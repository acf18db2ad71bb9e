package lower_test

import (
	"fmt"
	"reflect"
	"slices"
	"strings"
	"testing"

	"hawser/api"
	"hawser/iface"
	"hawser/lower"
	"hawser/object"
	"hawser/parse"
	"hawser/verify"
)

func read(t testing.TB, source string) api.Module {
	t.Helper()
	m, why, at := parse.Module(source)
	if why != api.OK {
		t.Fatalf("%.300s: %v at %d", source, why, at)
	}
	return m
}

func readAll(t testing.TB, sources ...string) []api.Module {
	t.Helper()
	var l []api.Module
	for _, source := range sources {
		l = append(l, read(t, source))
	}
	return l
}

func caseOf(name string, fields ...string) api.Case { return api.Case{Name: name, Fields: fields} }

func typeItem(name string, cases ...api.Case) api.Item {
	return api.Item{Kind: api.Type, Name: name, Cases: cases}
}

func constItem(name, of string) api.Item { return api.Item{Kind: api.Const, Name: name, Type: of} }

func funItem(name, of string) api.Item { return api.Item{Kind: api.Fun, Name: name, Type: of} }

// others are interfaces, of which some name types that nobody shows.
func others() []api.Iface {
	return []api.Iface{
		{Module: "n", Items: []api.Item{
			typeItem("T", caseOf("P", "num"), caseOf("Q")), typeItem("U", caseOf("One", "n.T", "k.W", "[bytes]", "()num")),
			constItem("c", "num"), constItem("d", "[k.W]"), funItem("f", "(num)n.T"), funItem("h", "()k.W"), funItem("two", "(n.T,(num)num)num"),
		}},
		{Module: "k", Items: []api.Item{typeItem("V", caseOf("A"), caseOf("B", "k.V")), constItem("c", "bytes")}},
		{Module: "n", Items: []api.Item{constItem("c", "bytes"), constItem("e", "num")}}, // the first one of its name counts
	}
}

// wantObject: the module is lowered, and all that is promised of each object holds of this one.
func wantObject(t testing.TB, m api.Module, l []api.Iface) object.Object {
	t.Helper()
	o, why := lower.Module(m, l)
	if why != api.OK {
		t.Fatalf("%.500s: %v", parse.Print(m), why)
	}
	wantVerified(t, m, l, o)
	wantShape(t, m, l, o)
	again, why := lower.Module(m, l)
	if why != api.OK || !reflect.DeepEqual(again, o) {
		t.Fatalf("%.500s: again %v, %+v, was %+v", parse.Print(m), why, again, o)
	}
	return o
}

// wantVerified: P16.3, and that the object comes back from its bytes.
func wantVerified(t testing.TB, m api.Module, l []api.Iface, o object.Object) {
	t.Helper()
	if why, n, at := verify.Object(o, l); why != api.OK {
		t.Fatalf("%.500s: verify: %v, %d at %d", parse.Print(m), why, n, at)
	}
	b, why := object.Encode(o)
	if why != api.OK {
		t.Fatalf("%.500s: Encode: %v", parse.Print(m), why)
	}
	if back, why, at := object.Decode(b); why != api.OK || !reflect.DeepEqual(back, o) {
		t.Fatalf("%.500s: Decode: %v at %d, %+v, was %+v", parse.Print(m), why, at, back, o)
	}
	want, _ := iface.Of(m)
	if i, why := object.Iface(o); why != api.OK || fmt.Sprint(i) != fmt.Sprint(want) {
		t.Fatalf("%.500s: Iface: %v, %v, want %v", parse.Print(m), why, i, want)
	}
}

// wantShape: P16.1, but for what the code does.
func wantShape(t testing.TB, m api.Module, l []api.Iface, o object.Object) {
	t.Helper()
	fail := func(what string, got any) { t.Fatalf("%.500s: %s: %+v", parse.Print(m), what, got) }
	if o.Module != m.Name {
		fail("Module", o.Module)
	}
	if got := fmt.Sprint(o.Types); got != fmt.Sprint(typesOf(m)) {
		fail("Types", got)
	}
	if got := fmt.Sprint(o.Exports); got != fmt.Sprint(slices.Sorted(slices.Values(m.Exports))) {
		fail("Exports", got)
	}
	if got, want := slices.Sorted(slices.Values(o.Texts)), listTypes(m); !slices.Equal(got, want) {
		fail("Texts", got)
	}
	lambdas := 0
	for _, e := range allOf(m) {
		if e.Kind == api.Lambda {
			lambdas++
		}
	}
	if len(o.Funs) != len(m.Funs)+len(m.Consts)+lambdas || len(o.Globals) != len(m.Consts) {
		fail("how many functions and globals", o)
	}
	for k, def := range m.Funs {
		if f := o.Funs[k]; f.Name != def.Name || f.Result != def.Type || f.Captures != 0 || fmt.Sprint(f.Params) != fmt.Sprint(paramTypes(def.Params)) {
			fail("function "+def.Name, f)
		}
	}
	for _, f := range o.Funs[len(m.Funs):] {
		if f.Name != "" {
			fail("a name", f)
		}
	}
	for k, def := range m.Consts {
		g := o.Globals[k]
		if f := o.Funs[g.Fun]; g.Name != def.Name || g.Type != def.Type || g.Fun < len(m.Funs)+lambdas || object.Sign(f) != "()"+def.Type || len(f.Params) != 0 {
			fail("const "+def.Name, g)
		}
	}
	if why := wrongSymbols(m, l, o); why != "" {
		fail(why, o.Symbols)
	}
}

func typesOf(m api.Module) []api.Item {
	list := []api.Item{}
	for _, def := range m.Types {
		list = append(list, typeItem(def.Name, def.Cases...))
	}
	slices.SortFunc(list, func(a, b api.Item) int { return strings.Compare(a.Name, b.Name) })
	return list
}

func paramTypes(params []api.Param) []string {
	list := []string{}
	for _, param := range params {
		list = append(list, param.Type)
	}
	return list
}

// listTypes are the types of a module's Lists, each once, in order of bytes.
func listTypes(m api.Module) []string {
	var list []string
	for _, e := range allOf(m) {
		if e.Kind == api.List {
			list = append(list, e.Type)
		}
	}
	slices.Sort(list)
	return slices.Compact(list)
}

// allOf are all expressions of a module.
func allOf(m api.Module) (list []api.Expr) {
	for _, def := range m.Consts {
		list = append(list, within(def.Body)...)
	}
	for _, def := range m.Funs {
		list = append(list, within(def.Body)...)
	}
	return list
}

func within(e api.Expr) []api.Expr {
	list := []api.Expr{e}
	for _, kid := range e.Kids {
		list = append(list, within(kid)...)
	}
	for _, arm := range e.Arms {
		list = append(list, within(arm.Body)...)
	}
	return list
}

// wrongSymbols tells what is wrong with the symbols: each import has one, as it is shown; each other one is the module's own, and named by the code.
func wrongSymbols(m api.Module, l []api.Iface, o object.Object) string {
	for _, one := range m.Imports {
		shown := l[slices.IndexFunc(l, func(i api.Iface) bool { return i.Module == one.From })]
		item, _ := iface.Find(shown, one.Name)
		n := slices.IndexFunc(o.Symbols, func(s object.Symbol) bool { return s.Module == one.From && s.Item.Name == one.Name })
		if n < 0 || fmt.Sprint(o.Symbols[n].Item) != fmt.Sprint(item) {
			return fmt.Sprintf("the symbol of %v", one)
		}
	}
	own := 0
	for n, s := range o.Symbols {
		if s.Module != m.Name {
			continue
		}
		own++
		if !slices.ContainsFunc(o.Relocs, func(r object.Reloc) bool { return r.Sym == n }) {
			return fmt.Sprintf("symbol %d, which nobody names", n)
		}
	}
	if own+len(m.Imports) != len(o.Symbols) {
		return "how many symbols"
	}
	return ""
}

// wantRefused: the module is refused, with nothing beside it, and again so.
func wantRefused(t testing.TB, m api.Module, l []api.Iface, why api.Errno) {
	t.Helper()
	for range 2 {
		o, got := lower.Module(m, l)
		if got != why || !reflect.DeepEqual(o, object.Object{}) {
			t.Errorf("%.300s: %v, %+v, want %v", parse.Print(m), got, o, why)
		}
	}
}

// The chapter's runs.
func TestRuns(t *testing.T) {
	o := wantObject(t, read(t, "(module m (export f) (fun f () num 1))"), nil)
	if len(o.Funs) != 1 || o.Funs[0].Name != "f" || fmt.Sprint(o.Exports) != "[f]" {
		t.Errorf("%+v", o)
	}
}

// The chapter's examples.
func TestExamples(t *testing.T) {
	o := wantObject(t, read(t, "(module m)"), nil)
	if !reflect.DeepEqual(o, object.Object{Module: "m"}) {
		t.Errorf("%+v", o)
	}
	o = wantObject(t, read(t, "(module m (fun f ((x num) (y bytes) (z num)) (fn (num) num) (fn ((w num)) num (add w (len y)))))"), nil)
	if f := o.Funs[1]; f.Captures != 1 || fmt.Sprint(f.Params) != "[bytes num]" || f.Locals != 2 {
		t.Errorf("%+v", o)
	}
}

// ordinaries are modules of each form at least once.
func ordinaries() []string {
	types := "(type T (A) (B num bytes) (C T (array T) num num)) (type U (F (fn (num) num))) "
	return []string{
		"(module m)", "(module m (export))", "(module m (import n))", "(module m (import n T U c d f h two) (import k V c))", "(module m (import n c h) (fun f () num n.c))",
		"(module m " + types + ")", "(module m (export U T) " + types + ")", "(module m (type Z (ZZ)) (type B (BB Z)) (type A0 (AA (array B))) (export Z B) (export A0))",
		"(module m (const a num 1) (const b bytes \"x\") (const c num (add a (len b))) (export c a))",
		"(module m (export g f) (fun g () num 1-2i) (fun f ((x num) (y bytes)) num (g)))",
		"(module m (const a num (f)) (fun f () num b) (const b num 1))",
		"(module m (fun f ((x num)) num (let x (add x 1) (let x (mul x x) (sub x 1)))))",
		"(module m (fun f ((x num) (x bytes)) bytes x) (fun g ((x num)) bytes (f x \"\")))",
		"(module m (fun f ((x num)) num (if x (if (lt x 0) 1 2) (if (eq x 0) 3 (neg 4)))))",
		"(module m (fun f ((x num) (y bytes)) (array num) (array num (add x x) (sub x x) (mul x x) (neg x) (conj x) (re x) (im x) (eq x x) (lt x x) (len y) (at y x) (eq y y) (len (cat y y)) (len (cut y x x)))))",
		"(module m (fun f ((y (array bytes))) (array bytes) (cat (array bytes (at y 0)) (array bytes))) (fun g () (array (array bytes)) (array (array bytes) (f (array bytes)))))",
		"(module m " + types + "(fun f () T (C (A) (array T (B 1 \"\") (A)) 1 2)) (fun g ((x num)) U (F (fn ((y num)) num (add x y)))))",
		"(module m " + types + "(fun f ((t T)) num (match t ((C t l x y) (add (f t) (mul x (len l)))) ((A) 0) ((B x y) (add x (len y))))))",
		"(module m (type E (X) (Y) (Z)) (fun f ((e E)) num (match e ((Z) 3) ((X) 1) ((Y) 2))) (fun g ((e E)) E (match e ((X) (Y)) ((Y) (Z)) ((Z) (X)))))",
		"(module m (type One (One num)) (fun f ((x One)) num (match x ((One x) x))) (fun g ((x One)) num (match (match x ((One y) (One (neg y)))) ((One z) z))))",
		"(module m (type P (P num num num num)) (fun f ((p P)) num (match p ((P x x y x) (add x y)))))",
		"(module m (fun f ((x num)) (fn () (fn () num)) (fn () (fn () num) (fn () num (add x x)))))",
		"(module m (fun f ((a num) (b num)) num (call (fn ((c num)) num (call (fn ((d num)) num (add (add a b) (add c d))) a)) b)))",
		"(module m (const a num 2) (const b (fn (num) num) (fn ((x num)) num (mul a x))) (fun f () num (call b 3)) (const c (array (fn () num)) (array (fn () num) f (fn () num a) (fn () num (call (fn () num (f)))))))",
		"(module m (const a num 2) (fun g () num 1) (fun f ((a bytes)) (fn () bytes) (let g a (fn () bytes (cat a g)))) (fun h ((g num)) num (add g (g))))",
		"(module m (fun f () (fn (num) num) g) (fun g ((x num)) num x) (fun h ((x num)) num (call (f) (call g (g x)))))",
		"(module m (import n T U c d f h two) (fun g ((u n.U)) num (match u ((n.One t w b f) (match t ((n.P x) (add x (call f))) ((n.Q) (call (fn () num (let y w n.c)))))))))",
		"(module m (import n d f h two T) (fun g () num (let l n.d (let w (n.h) (add (len (cat l l)) (n.two (n.f 1) (fn ((x num)) num (let v w (let u (at l 0) x)))))))) (const a (fn (num) n.T) n.f))",
		"(module m (import n h) (fun g () num (let h n.h (let w (call h) (call (fn () num (let v (call h) (call (fn () num (let u v (let x w 1)))))))))))",
		"(module m (import k V c) (import n c) (export f v) (const v k.V (k.B (k.A))) (fun f ((v k.V)) num (match v ((k.A) n.c) ((k.B v) (add (len k.c) (f v))))))",
		"(module m (fun f ((x bytes)) bytes (cut (cat x x) 0 (at x 1))) (fun g () (array num) (array num 1 2 3 4 5 6 7 8 9 10 11 12 13)))",
		"(module m (fun if_ ((_ num) (_x num)) num (let __ _ (add __ _x))) (fun f () num (if_ 1048576-1048576i -1048576+1048576i)))",
		"(module m (fun f ((x num)) num (add (let a x (add a 1)) (let b x (match (One b) ((One c) (let d c (add b d)))))))  (type One (One num)))",
		"(module m (fun f ((x num)) bytes (let y (if x (let a 1 (add a x)) (let b \"\" (len b))) (let c \"c\" (if y c \"\")))))",
	}
}

// P16.1, P16.3: ordinary modules.
func TestOrdinary(t *testing.T) {
	for _, source := range ordinaries() {
		wantObject(t, read(t, source), others())
	}
}

// P16.1: interfaces that nobody asks for do no harm, and what they show is not told.
func TestOtherInterfaces(t *testing.T) {
	for _, source := range ordinaries() {
		if strings.Contains(source, "import") {
			continue
		}
		m := read(t, source)
		if got, want := wantObject(t, m, others()), wantObject(t, m, nil); !reflect.DeepEqual(got, want) {
			t.Errorf("%s: %+v, else %+v", source, got, want)
		}
	}
}

// P16.1: the places in a source, and how it is written, don't count.
func TestPlacesDontCount(t *testing.T) {
	for _, source := range ordinaries() {
		m := read(t, source)
		if got, want := wantObject(t, read(t, "; a remark\n "+parse.Print(m)), others()), wantObject(t, m, others()); !reflect.DeepEqual(got, want) {
			t.Errorf("%s: %+v, else %+v", source, got, want)
		}
	}
}

// along tells what the functions without a name take along, the types of each, in order of bytes.
func along(o object.Object) string {
	var list []string
	for _, f := range o.Funs {
		if f.Name == "" {
			list = append(list, fmt.Sprint(f.Params[:f.Captures], f.Params[f.Captures:]))
		}
	}
	slices.Sort(list)
	return strings.Join(list, " ")
}

// P16.1: a Lambda takes along those locals that it names, and nothing else.
func TestTakenAlong(t *testing.T) {
	for source, want := range map[string]string{
		"(fun f ((x num)) (fn () num) (fn () num 1))":                                                                   "[] []",
		"(fun f ((x num)) (fn () num) (fn () num x))":                                                                   "[num] []",
		"(fun f ((x num)) (fn () num) (fn () num (add x x)))":                                                           "[num] []",
		"(fun f ((x num) (y bytes)) (fn () num) (fn () num (add (len y) x)))":                                           "[bytes num] []",
		"(fun f ((x num)) (fn (num) num) (fn ((x num)) num x))":                                                         "[] [num]",
		"(fun f ((x num) (x bytes)) (fn () bytes) (fn () bytes x))":                                                     "[bytes] []",
		"(fun f ((x num)) (fn () bytes) (let x \"\" (fn () bytes x)))":                                                  "[bytes] []",
		"(fun f ((x num)) (fn () num) (fn () num (let x 1 x)))":                                                         "[] []",
		"(fun f ((x num)) (fn () num) (fn () num (let x x x)))":                                                         "[num] []",
		"(const c num 1) (fun f () (fn () num) (fn () num c))":                                                          "[] [] [] []",
		"(const c num 1) (fun f ((c num)) (fn () num) (fn () num c))":                                                   "[] [] [num] []",
		"(fun f () (fn () num) (fn () num (f2))) (fun f2 () num 1)":                                                     "[] []",
		"(fun f ((f2 bytes)) (fn () num) (fn () num (f2))) (fun f2 () num 1)":                                           "[] []",
		"(fun f () (fn () (fn () num)) (fn () (fn () num) f2)) (fun f2 () num 1)":                                       "[] []",
		"(fun f ((x num)) (fn () (fn () num)) (fn () (fn () num) (fn () num x)))":                                       "[num] [] [num] []",
		"(fun f ((x num)) (fn (bytes) (fn () num)) (fn ((y bytes)) (fn () num) (fn () num (add x (len y)))))":           "[num bytes] [] [num] [bytes]",
		"(fun f ((x num)) (fn (bytes) (fn () num)) (fn ((x bytes)) (fn () num) (fn () num (len x))))":                   "[] [bytes] [bytes] []",
		"(type T (A num bytes) (B)) (fun f ((t T)) (fn () num) (match t ((A x y) (fn () num x)) ((B) (fn () num 1))))":  "[] [] [num] []",
		"(type T (A num bytes) (B)) (fun f ((t T)) (fn () T) (match t ((A x y) (fn () T (A x y))) ((B) (fn () T t))))":  "[m.T] [] [num bytes] []",
		"(const c (fn (num) (fn () num)) (fn ((x num)) (fn () num) (fn () num x)))":                                     "[] [] [] [num] [num] []",
		"(import n h) (fun f () num (let w (n.h) (call (fn () num (let v w 1)))))":                                      "[k.W] []",
		"(fun f ((x num)) num (let g (fn ((y num)) num (add x y)) (call (fn () num (call g (let h g (call h x)))))))":   "[(num)num num] [] [num] [num]",
		"(fun f ((a num) (b bytes) (c num)) (array (fn () num)) (array (fn () num) (fn () num c) (fn () num (len b))))": "[bytes] [] [num] []",
	} {
		o := wantObject(t, read(t, "(module m "+source+")"), others())
		if got := along(o); got != want {
			t.Errorf("%s: %s, want %s", source, got, want)
		}
	}
}

// P16.1: what is taken along is of the type that it was bound with, whatever it was bound to.
func TestTypesTakenAlong(t *testing.T) {
	for bound, want := range map[string]string{
		"1": "num", "\"\"": "bytes", "x": "num", "c": "bytes", "n.c": "num", "n.f": "(num)n.T", "g": "(num,bytes)[num]", "(let y \"\" y)": "bytes", "(let y \"\" x)": "num", "(if x \"\" \"\")": "bytes", "(if x l l)": "[bytes]",
		"(add x x)": "num", "(neg x)": "num", "(eq c c)": "num", "(lt x x)": "num", "(cat c c)": "bytes", "(cat l l)": "[bytes]", "(len c)": "num", "(len l)": "num", "(at c x)": "num", "(at l x)": "bytes", "(at (at (array (array bytes)) 0) 0)": "bytes", "(cut c x x)": "bytes",
		"(array num)": "[num]", "(array (fn () num) h h)": "[()num]", "(array n.T)": "[n.T]", "(A)": "m.T", "(B x)": "m.T", "(n.Q)": "n.T", "(n.P x)": "n.T", "(match t ((A) c) ((B y) c))": "bytes", "(match t ((B y) y) ((A) x))": "num", "(match t ((B y) l) ((A) l))": "[bytes]",
		"(fn () num 1)": "()num", "(fn ((y num) (z T)) (array T) (array T))": "(num,m.T)[m.T]", "(call h)": "num", "(call g x c)": "[num]", "(call (fn () (fn () bytes) (fn () bytes c)))": "()bytes", "(g x c)": "[num]", "(h)": "num", "(n.f x)": "n.T", "(n.h)": "k.W",
	} {
		const items = "(import n T c f h) (type T (A) (B num)) (const c bytes \"\") (fun g ((x num) (y bytes)) (array num) (array num x)) (fun h () num 1) (fun f ((x num) (l (array bytes)) (t T)) (fn () num) "
		o := wantObject(t, read(t, "(module m "+items+"(let it "+bound+" (fn () num (let y it 1)))))"), others())
		n := slices.IndexFunc(o.Funs, func(f object.Fun) bool { return f.Captures == 1 })
		if n < 0 || o.Funs[n].Params[0] != want {
			t.Errorf("%s: %+v, want %s", bound, o.Funs, want)
		}
	}
}

// P16.1: a symbol for each name that is imported, used or not, and for each of the module's own that is used, once.
func TestSymbols(t *testing.T) {
	for source, want := range map[string]string{
		"":                   "",
		"(import n c)":       "n.c",
		"(import n U h c T)": "n.T n.U n.c n.h",
		"(import n c) (import k c) (fun f () num (add n.c (add n.c (len k.c))))":                           "k.c n.c",
		"(type T (A)) (const a T (A)) (fun f () num 1)":                                                    "m.T",
		"(type T (A)) (type U (B T)) (const a num 1) (fun f ((t T)) num 1)":                                "",
		"(type T (A)) (type U (B T)) (const a num 1) (fun f ((t T)) num (match t ((A) a)))":                "m.T m.a",
		"(type T (A)) (fun f ((t T)) T (match t ((A) (A))))":                                               "m.T",
		"(fun f () num (g)) (fun g () num (add (f) (call f)))":                                             "m.f m.g",
		"(fun f () num (call (fn () num (call (fn () num 1)))))":                                           "m.1 m.2",
		"(const a (fn () num) (fn () num 1)) (const b (fn () num) a) (fun f () num 1)":                     "m.1 m.a",
		"(const a num 1) (fun f ((a num)) num a)":                                                          "",
		"(import n f) (const a num 1) (fun f ((a num)) num (let b n.f (let c (n.f a) (f a))))":             "m.f n.f",
		"(import k V) (fun f ((v k.V)) num (match v ((k.A) 1) ((k.B w) (match w ((k.A) 2) ((k.B v) 3)))))": "k.V",
	} {
		o := wantObject(t, read(t, "(module m "+source+")"), others())
		var got []string
		for _, s := range o.Symbols {
			name := s.Item.Name
			if name == "" {
				name = s.Item.Type
			}
			got = append(got, s.Module+"."+name)
		}
		slices.Sort(got)
		if strings.Join(got, " ") != want {
			t.Errorf("%s: %q, want %s", source, got, want)
		}
	}
}

// P16.1: the types of Lists are texts, each once.
func TestTexts(t *testing.T) {
	o := wantObject(t, read(t, "(module m (type T (A)) (fun f ((l (array bytes))) num (len (array num 1 (len (array T (A))) (len (array num)) (len (array (array T) (array T)))))) (const c num (len (array T))))"), nil)
	if got := fmt.Sprint(slices.Sorted(slices.Values(o.Texts))); got != "[[m.T] m.T num]" {
		t.Error(got)
	}
}

// P16.1: functions with a name come first, as the module has them; what a function needs is told of it.
func TestFunctions(t *testing.T) {
	o := wantObject(t, read(t, "(module m (const z num (let a 1 (let b 2 a))) (fun y ((p num) (q bytes)) num (let a (fn ((r num)) num (add r p)) (call a 1))) (const x num 1) (fun w () num 1))"), nil)
	var got []string
	for _, f := range o.Funs {
		got = append(got, fmt.Sprintf("%s%v/%d%s/%d", f.Name, f.Params, f.Captures, f.Result, f.Locals))
	}
	if want := "y[num bytes]/0num/3 w[]/0num/0 [num num]/1num/2 []/0num/2 []/0num/0"; strings.Join(got, " ") != want {
		t.Errorf("%q, want %s", got, want)
	}
	if want := "[{z num 3} {x num 4}]"; fmt.Sprint(o.Globals) != want {
		t.Errorf("%v, want %s", o.Globals, want)
	}
}
