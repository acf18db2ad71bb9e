package parse_test

import (
	"fmt"
	"regexp"
	"strings"
	"testing"
	"unsafe"

	"hawser/api"
	"hawser/parse"
)

// wantModule: Module reads s as want; and what Print makes of that it reads as the same, but for places.
func wantModule(t *testing.T, s string, want api.Module) {
	t.Helper()
	got, why, at := parse.Module(s)
	if told(got) != told(want) || why != api.OK || at != 0 {
		t.Errorf("Module(%.200s): %s, %v at %d, want %s", s, told(got), why, at, told(want))
	}
	wantRound(t, got)
	if size := len(parse.Print(got)); size > len(s) {
		t.Errorf("Print of what %.200s says has %d bytes, that %d", s, size, len(s))
	}
}

func wantRefused(t *testing.T, s string, why api.Errno, at int) {
	t.Helper()
	got, gotWhy, gotAt := parse.Module(s)
	if told(got) != told(api.Module{}) || gotWhy != why || gotAt != at {
		t.Errorf("Module(%.200s): %s, %v at %d, want %v at %d", s, told(got), gotWhy, gotAt, why, at)
	}
}

// wantItems: as wantModule, of a source that is the module m's.
func wantItems(t *testing.T, items string, want api.Module) {
	t.Helper()
	want.Name = "m"
	wantModule(t, "(module m "+items+")", want)
}

// wantWrong: as wantRefused, of items of the module m; at is counted from where they begin.
func wantWrong(t *testing.T, items string, why api.Errno, at int) {
	t.Helper()
	wantRefused(t, "(module m "+items+")", why, 10+at)
	wantRefused(t, "(module m (export x) "+items+" ())", why, 21+at)
}

func TestRunsModule(t *testing.T) {
	wantModule(t, `(module m (fun f () num 1))`, api.Module{Name: "m", Funs: []api.FunDef{{Name: "f", Type: "num", Body: number(24, 1)}}})
	wantRefused(t, `(module M)`, api.ErrName, 8)
	wantRefused(t, `(module m (let x))`, api.ErrForm, 10)
}

func TestExamplesModule(t *testing.T) {
	wantModule(t, `(module m)`, api.Module{Name: "m"})
	wantItems(t, `(const c num (f))`, api.Module{Consts: []api.ConstDef{{Name: "c", Type: "num", Body: call(api.Call, 23, "f")}}})
	wantWrong(t, `(const c num (let add 1 2))`, api.ErrName, 18)
}

// P6.2: each kind of item, by itself.
func TestItems(t *testing.T) {
	wantItems(t, `(import n)`, api.Module{})
	wantItems(t, `(import n f)`, api.Module{Imports: []api.Import{{From: "n", Name: "f"}}})
	wantItems(t, `(import n f T f)`, api.Module{Imports: []api.Import{{From: "n", Name: "f"}, {From: "n", Name: "T"}, {From: "n", Name: "f"}}})
	wantItems(t, `(export)`, api.Module{})
	wantItems(t, `(export f T _ f)`, api.Module{Exports: []string{"f", "T", "_", "f"}})
	wantItems(t, `(type T (A))`, api.Module{Types: []api.TypeDef{{Name: "T", Cases: []api.Case{{Name: "A"}}}}})
	wantItems(t, `(type T (T num T n.T (array T)) (B (fn (T) T)))`, api.Module{Types: []api.TypeDef{{Name: "T", Cases: []api.Case{{Name: "T", Fields: []string{"num", "m.T", "n.T", "[m.T]"}}, {Name: "B", Fields: []string{"(m.T)m.T"}}}}}})
	wantItems(t, `(const c num 1)`, api.Module{Consts: []api.ConstDef{{Name: "c", Type: "num", Body: number(23, 1)}}})
	wantItems(t, `(const _c (fn () T) f)`, api.Module{Consts: []api.ConstDef{{Name: "_c", Type: "()m.T", Body: name(30, "f")}}})
	wantItems(t, `(fun f () T "a")`, api.Module{Funs: []api.FunDef{{Name: "f", Type: "m.T", Body: text(22, "a")}}})
	wantItems(t, `(fun f ((x num) (x (array T))) n.T x)`, api.Module{Funs: []api.FunDef{{Name: "f", Params: []api.Param{{Name: "x", Type: "num"}, {Name: "x", Type: "[m.T]"}}, Type: "n.T", Body: name(45, "x")}}})
}

// P6.2: modules of several items, in any order: each kind keeps its own.
func TestModules(t *testing.T) {
	wantItems(t, `(fun g()num 1)(export a)(import n b)(type B(C))(const d num 2)(import o e)(import n f)(export G h)(fun f()num 3)(const c num 4)(type A(D))(import n)(export)`, api.Module{
		Imports: []api.Import{{From: "n", Name: "b"}, {From: "o", Name: "e"}, {From: "n", Name: "f"}},
		Exports: []string{"a", "G", "h"},
		Types:   []api.TypeDef{{Name: "B", Cases: []api.Case{{Name: "C"}}}, {Name: "A", Cases: []api.Case{{Name: "D"}}}},
		Consts:  []api.ConstDef{{Name: "d", Type: "num", Body: number(70, 2)}, {Name: "c", Type: "num", Body: number(135, 4)}},
		Funs:    []api.FunDef{{Name: "g", Type: "num", Body: number(22, 1)}, {Name: "f", Type: "num", Body: number(120, 3)}},
	})
	wantModule(t, " ; a remark\n(module ; m\nother\t(const c T (array T)))\n;", api.Module{Name: "other", Consts: []api.ConstDef{{Name: "c", Type: "other.T", Body: api.Expr{Kind: api.List, At: 41, Type: "other.T"}}}})
	wantModule(t, `(module n (type T (A n.T m.T)) (const c n.U (n.f n.x)))`, api.Module{Name: "n", Types: []api.TypeDef{{Name: "T", Cases: []api.Case{{Name: "A", Fields: []string{"n.T", "m.T"}}}}},
		Consts: []api.ConstDef{{Name: "c", Type: "n.U", Body: call(api.Call, 44, "n.f", name(49, "n.x"))}}})
	name24 := strings.Repeat("n", api.MaxName)
	wantModule(t, "(module "+name24+" (import "+name24+" "+name24+"))", api.Module{Name: name24, Imports: []api.Import{{From: name24, Name: name24}}})
	wantRefused(t, "(module "+name24+"n)", api.ErrName, 8)
}

// P6.2: a word may be a module's, an import's or an export's name, but no const's, function's or parameter's.
func TestModuleOfWords(t *testing.T) {
	for _, word := range words {
		n := len(word)
		wantModule(t, "(module "+word+" (const c T "+word+"))", api.Module{Name: word, Consts: []api.ConstDef{{Name: "c", Type: word + ".T", Body: name(n+20, word)}}})
		wantItems(t, "(import "+word+" "+word+")", api.Module{Imports: []api.Import{{From: word, Name: word}}})
		wantItems(t, "(export "+word+")", api.Module{Exports: []string{word}})
		wantWrong(t, "(const "+word+" num 1)", api.ErrName, 7)
		wantWrong(t, "(fun "+word+" () num 1)", api.ErrName, 5)
		wantWrong(t, "(fun f (("+word+" num)) num 1)", api.ErrName, 9)
		wantWrong(t, "(fun f ((x num) ("+word+" num)) num 1)", api.ErrName, 17)
		if itemShapes[word] == "" {
			wantWrong(t, "("+word+" x num 1)", api.ErrForm, 0)
		}
	}
}

// P6.2: what is no module: what tree.Parse refuses, and other trees.
func TestNoModules(t *testing.T) {
	for s, want := range map[string]refusal{
		"": {api.ErrForm, 0}, "  ": {api.ErrForm, 2}, "(module m": {api.ErrEnd, 9}, "(module m))": {api.ErrForm, 10}, "(module m) (module n)": {api.ErrTail, 11}, "(module \x00)": {api.ErrForm, 8}, `(module m "a`: {api.ErrEnd, 10},
		strings.Repeat("(", 41): {api.ErrNest, 40}, "(module m (let x)) y": {api.ErrTail, 19}, "(module M": {api.ErrEnd, 9}, strings.Repeat(" ", api.MaxSource) + "(": {api.ErrLong, 0},
		"m": {api.ErrForm, 0}, "module": {api.ErrForm, 0}, ` "module"`: {api.ErrForm, 1}, "()": {api.ErrForm, 0}, " ()": {api.ErrForm, 1}, "(m)": {api.ErrForm, 0}, "(module)": {api.ErrForm, 0}, "(modules m)": {api.ErrForm, 0}, "(Module m)": {api.ErrForm, 0},
		"(fun f () num 1)": {api.ErrForm, 0}, `("module" m)`: {api.ErrForm, 0}, "((module) m)": {api.ErrForm, 0}, "((module m))": {api.ErrForm, 0}, "(module (m))": {api.ErrForm, 0}, `(module "m")`: {api.ErrForm, 0}, "(module () x)": {api.ErrForm, 0},
		"(module m.n)": {api.ErrName, 8}, "(module 1)": {api.ErrName, 8}, "(module M x)": {api.ErrName, 8}, "(module m' ())": {api.ErrName, 8},
	} {
		wantRefused(t, s, want.why, want.at)
	}
}

// P6.2: what is no item: other words, other trees, too few and too many Kids, an Open where an Atom is wanted, and the other way round.
func TestNoItems(t *testing.T) {
	for _, s := range []string{
		"x", "1", `"x"`, "()", "(f)", "(imports n)", "(Import n)", "((import) n)", `("import" n)`, `("export")`, `("fun" f () num 1)`, "(add 1 2)", "(n.fun f () num 1)", "(if 1 2 3)", "(f 1)",
		"(import)", "(import (n))", `(import "n")`, "(import n (x))", `(import n "x")`, `(import n x y "z")`, "(import n x () z)", `(import "n" x)`, "(import () x)",
		"(export (x))", `(export "x")`, "(export x y (z))", `(export x "y" z)`, "(export ())",
		"(type)", "(type T)", "(type (T) (A))", `(type "T" (A))`, "(type (A))", "(type () (A) (B))", "(type (T) (A) (B))",
		"(const)", "(const c)", "(const c num)", "(const c num 1 2)", "(const (c) num 1)", `(const "c" num 1)`, "(const num 1)",
		"(fun)", "(fun f)", "(fun f ())", "(fun f () num)", "(fun f () num 1 2)", "(fun (f) () num 1)", `(fun "f" () num 1)`, "(fun f x num 1)", `(fun f "x" num 1)`, "(fun f num 1)", "(fun f num num 1)", "(fun () num 1)",
	} {
		wantWrong(t, s, api.ErrForm, 0)
	}
	for _, s := range []string{"A", "1", `"A"`, "()", "((A))", "((A) num)", `("A")`, `("A" num)`, "(())"} {
		wantWrong(t, "(type T "+s+")", api.ErrForm, 8)
		wantWrong(t, "(type T (B num) "+s+")", api.ErrForm, 16)
	}
	for _, s := range []string{"x", "1", `"x"`, "()", "(x)", "(x num num)", "((x) num)", `("x" num)`, "(() num)"} {
		wantWrong(t, "(fun f ("+s+") num 1)", api.ErrForm, 8)
		wantWrong(t, "(fun f ((y num) "+s+") num 1)", api.ErrForm, 16)
	}
}

// P6.2: as many cases, fields and parameters as may be, and one more: ErrCount at the item, behind its own ErrForm, ahead of all its parts.
func TestItemCounts(t *testing.T) {
	for n := range 12 {
		cases, fields, params := strings.Repeat("(A)", n), strings.Repeat(" num", n), strings.Repeat("(x num)", n)
		wantCounted(t, "(type T"+cases+")", n == 0, n > 6)
		wantCounted(t, "(type T(A"+fields+"))", false, n > 4)
		wantCounted(t, "(type T(A)(B"+fields+")(C num))", false, n > 4)
		wantCounted(t, "(type T(A num num num num)(B)(C"+fields+"))", false, n > 4)
		wantCounted(t, "(fun f("+params+")num 1)", false, n > 6)
	}
	five, seven := " num num num num num", strings.Repeat("()", 7)
	for _, s := range []string{
		"(type t (A" + five + "))", "(type T x (A" + five + "))", "(type T () (A" + five + "))", "(type T (a x) (A" + five + "))", "(type T (a" + five + "))", "(type T ((A)" + five + "))", "(type T (A () () () () ()))", "(type T ((A) ()) (B x (array) 1 2 3))",
		"(type t " + seven + ")", "(type T A B C D E F G)", "(type t (A" + five + ") " + seven + ")", "(fun F (" + seven + ") x ())", "(fun add (1 2 3 4 5 6 7) num 1)", "(fun f (" + strings.Repeat("(x num)", 100) + ") num 1)",
	} {
		wantWrong(t, s, api.ErrCount, 0)
	}
	for _, s := range []string{"(type (T) (A" + five + "))", "(type (T) " + seven + ")", "(fun f (" + seven + ") num)", "(fun (f) (" + seven + ") num 1)", "(fun f (" + seven + ") num 1 2)"} {
		wantWrong(t, s, api.ErrForm, 0)
	}
	wantWrong(t, "(const C num 1) (type T "+seven+")", api.ErrName, 7)
	wantWrong(t, "(type T "+seven+") (const C num 1)", api.ErrCount, 0)
}

func wantCounted(t *testing.T, item string, noForm, tooMany bool) {
	t.Helper()
	switch {
	case noForm:
		wantWrong(t, item, api.ErrForm, 0)
	case tooMany:
		wantWrong(t, item, api.ErrCount, 0)
	default:
		wantItems(t, item, moduleByCalls("(module m "+item+")"))
	}
}

// P6.2: MaxItems of each kind, and one more: ErrMany at 0, behind all others.
func TestMany(t *testing.T) {
	for _, item := range []string{"(import n a)", "(export a)", "(type T(A))", "(const c num 1)", "(fun f()num 1)", "(import n T)(import k)", "(export)(export T)"} {
		full := strings.Repeat(item, api.MaxItems)
		wantItems(t, full, moduleByCalls("(module m "+full+")"))
		for _, s := range []string{"(module m " + full + item + ")", " \n (module m " + item + full + ") ; x", "(module m " + strings.Repeat(item, 60) + ")"} {
			wantRefused(t, s, api.ErrMany, 0)
		}
		wantWrong(t, full+item+"()", api.ErrForm, len(full+item))
		wantWrong(t, full+item+"(const add num 1)", api.ErrName, len(full+item)+7)
		wantWrong(t, full+item+"(fun f () num (f 1 2 3 4 5 6 7))", api.ErrCount, len(full+item)+14)
	}
	names := strings.Repeat(" a", api.MaxItems-1)
	for _, item := range []string{"(import n%s)", "(export%s)"} {
		s := fmt.Sprintf(item, names)
		wantItems(t, s+fmt.Sprintf(item, " b"), moduleByCalls("(module m "+s+fmt.Sprintf(item, " b")+")"))
		wantRefused(t, "(module m "+fmt.Sprintf(item, names+" b c")+")", api.ErrMany, 0)
		wantRefused(t, "(module m "+s+fmt.Sprintf(item, " b c")+")", api.ErrMany, 0)
		wantRefused(t, "(module m (import k d)"+s+fmt.Sprintf(item, " b c")+")", api.ErrMany, 0)
	}
	all := ""
	for _, item := range []string{"(import n a)", "(export a)", "(type T(A))", "(const c num 1)", "(fun f()num 1)"} {
		all += strings.Repeat(item, api.MaxItems)
	}
	wantItems(t, all, moduleByCalls("(module m "+all+")"))
}

// hole is one in a pattern: $ and what belongs there.
var hole = regexp.MustCompile(`\$[a-z]`)

// rightFor: what may stand in a hole.
var rightFor = map[string]string{"$e": "(f x)", "$t": "(array T)", "$n": "x", "$b": "B", "$c": "n.C", "$v": "add", "$i": "T"}

// wrongFor: what may not, with why and at which place of it: expressions, types, bound names, Bigs, cases, Values, names of imports and exports.
var wrongFor = map[string][]struct {
	text string
	why  api.Errno
	at   int
}{
	"$e": {{"()", api.ErrForm, 0}, {"X", api.ErrForm, 0}, {"(num 1)", api.ErrForm, 0}, {"(f 1 X)", api.ErrForm, 5}, {"(let add 1 2)", api.ErrName, 5}, {"(f (g 1 2 3 4 5 6 7))", api.ErrCount, 3}, {"(match x ((A B) 1))", api.ErrName, 13}, {"(array (array))", api.ErrForm, 7}, {"(fn () (fn (T T T T T T T) T) x)", api.ErrCount, 7}},
	"$t": {{"x", api.ErrForm, 0}, {`"num"`, api.ErrForm, 0}, {"()", api.ErrForm, 0}, {"(array x)", api.ErrForm, 7}, {"(fn (num n.t) num)", api.ErrForm, 9}, {"(array (fn (T T T T T T T) T))", api.ErrCount, 7}, {"(fn (" + longNames + ") num)", api.ErrLong, 0}},
	"$n": {{"X", api.ErrName, 0}, {"x.y", api.ErrName, 0}, {"n.X", api.ErrName, 0}, {"1", api.ErrName, 0}, {"add", api.ErrName, 0}, {"fun", api.ErrName, 0}, {"num", api.ErrName, 0}, {"let", api.ErrName, 0}, {"x'", api.ErrName, 0}, {"abcdefghijklmnopqrstuvwxy", api.ErrName, 0}},
	"$b": {{"b", api.ErrName, 0}, {"_B", api.ErrName, 0}, {"n.B", api.ErrName, 0}, {"1", api.ErrName, 0}, {"num", api.ErrName, 0}, {"Abcdefghijklmnopqrstuvwxy", api.ErrName, 0}},
	"$c": {{"c", api.ErrName, 0}, {"n.c", api.ErrName, 0}, {"N.C", api.ErrName, 0}, {"n.C.D", api.ErrName, 0}, {".C", api.ErrName, 0}, {"1", api.ErrName, 0}, {"add", api.ErrName, 0}},
	"$v": {{"V", api.ErrName, 0}, {"v.w", api.ErrName, 0}, {"1", api.ErrName, 0}, {"-", api.ErrName, 0}, {"abcdefghijklmnopqrstuvwxy", api.ErrName, 0}},
	"$i": {{"i.j", api.ErrName, 0}, {"n.T", api.ErrName, 0}, {"1", api.ErrName, 0}, {"-2i", api.ErrName, 0}, {"x-y", api.ErrName, 0}, {"Abcdefghijklmnopqrstuvwxy", api.ErrName, 0}},
}

// longNames: six types that are too long together.
var longNames = strings.TrimSpace(strings.Repeat(" aaaaaaaaaaaaaaaaaaaaaaaa.Tttttttttttttttt", 6))

// patterns: each form, and each place where something is read.
var patterns = []string{
	"(module $v)", "(module $v (export $i))", "(module m (import $v))", "(module m (import $v $i $i $i))", "(module m (export $i $i $i))", "(module m (import $v $i) (export $i) (import $v $i))",
	"(module m (type $b ($b)))", "(module m (type $b ($b $t) ($b) ($b $t $t $t $t)))", "(module m (type $b ($b $t)) (type $b ($b)) (import $v))",
	"(module m (const $n $t $e))", "(module m (const $n $t $e) (const $n $t $e))", "(module m (fun $n () $t $e))", "(module m (fun $n (($n $t)) $t $e))", "(module m (fun $n (($n $t) ($n $t) ($n $t)) $t $e) (export $i))",
	"(module m (const $n num (let $n $e $e)))", "(module m (const $n num (if $e $e $e)))", "(module m (const $n num (array $t)))", "(module m (const $n num (array $t $e $e)))",
	"(module m (const $n num (match $e (($c) $e))))", "(module m (const $n num (match $e (($c $n $n) $e) (($c) $e) (($c $n $n $n $n) $e))))",
	"(module m (const $n num (fn () $t $e)))", "(module m (const $n num (fn (($n $t)) $t $e)))", "(module m (const $n num (fn (($n $t) ($n $t)) $t $e)))",
	"(module m (const $n num (call $e)))", "(module m (const $n num (call $e $e $e)))", "(module m (const $n num (add $e)))", "(module m (const $n num (cut $e $e $e $e)))",
	"(module m (const $n num (F $e)))", "(module m (const $n num (n.F $e $e)))", "(module m (const $n num (f $e)))", "(module m (const $n num (n.f $e $e $e)))",
	"(module m (fun $n () num (let $n (if $e (match $e (($c $n) (fn (($n $t)) $t (f $e $e)))) $e) (array $t $e))) (const $n $t $e))",
}

// filled puts the texts into the holes of a pattern, and tells where each one begins.
func filled(pattern string, texts []string) (s string, places []int) {
	from := 0
	for i, found := range hole.FindAllStringIndex(pattern, -1) {
		s += pattern[from:found[0]]
		places = append(places, len(s))
		s += texts[i]
		from = found[1]
	}
	return s + pattern[from:], places
}

func allRight(pattern string) (kinds, texts []string) {
	kinds = hole.FindAllString(pattern, -1)
	for _, kind := range kinds {
		texts = append(texts, rightFor[kind])
	}
	return kinds, texts
}

// P6.2: something wrong in each place of each form is refused there, whatever is wrong behind it.
func TestEachPlace(t *testing.T) {
	for _, pattern := range patterns {
		kinds, texts := allRight(pattern)
		s, _ := filled(pattern, texts)
		wantModule(t, s, moduleByCalls(s))
		for i, kind := range kinds {
			for j, wrong := range wrongFor[kind] {
				_, texts := allRight(pattern)
				texts[i] = wrong.text
				s, places := filled(pattern, texts)
				wantRefused(t, s, wrong.why, places[i]+wrong.at)
				for k := i + 1; k < len(kinds); k++ {
					texts[k] = wrongFor[kinds[k]][(j+k)%len(wrongFor[kinds[k]])].text
				}
				s, places = filled(pattern, texts)
				wantRefused(t, s, wrong.why, places[i]+wrong.at)
			}
		}
	}
}

// P6.2: a Quoted or an Open where a name is wanted: ErrForm at the form around it, ahead of all that stands in that.
func TestEachName(t *testing.T) {
	for _, pattern := range patterns {
		kinds, right := allRight(pattern)
		for i, kind := range kinds {
			if kind == "$e" || kind == "$t" {
				continue
			}
			for _, text := range []string{`"x"`, `"X"`, `""`, "(x)", "()", "(X)"} {
				texts := append([]string{}, right...)
				texts[i] = text
				s, places := filled(pattern, texts)
				around := strings.LastIndex(s[:places[i]], "(")
				for strings.Count(s[around:places[i]], "(") <= strings.Count(s[around:places[i]], ")") {
					around = strings.LastIndex(s[:around], "(")
				}
				wantRefused(t, s, api.ErrForm, around)
				for k := i - 1; k >= 0 && places[k] > around; k-- {
					texts[k] = wrongFor[kinds[k]][0].text
				}
				s, _ = filled(pattern, texts)
				wantRefused(t, s, api.ErrForm, around)
			}
		}
	}
}

// P6.2: a Quoted where an expression is wanted is a Text; where a type or a form is wanted it is none.
func TestQuoted(t *testing.T) {
	for _, pattern := range patterns {
		kinds, texts := allRight(pattern)
		for i, kind := range kinds {
			if kind == "$e" {
				texts[i] = `"\x00\n\"\\\xff"`
			}
		}
		s, _ := filled(pattern, texts)
		wantModule(t, s, moduleByCalls(s))
	}
}

const wholeModule = `(module some_module (import other name_a Type_a)(import third name_b)(export fun_a Type_b)(type Type_b (Case_a num (array Type_b))(Case_b))(type Type_c (Case_c bytes))
(const const_a bytes "text_a")(const const_b num (let local_a 1 (if local_a other.name_a 2)))(fun fun_a ((param_a num)(param_b Type_b)) num (match param_b ((Case_a var_a var_b) (add var_a 1)) ((Case_b) (fn ((param_c Type_c)) num (fun_a 1 2)))))(fun fun_b () num (array num 1 2)))`

// section is a list of a module, or all lists of one expression of it: what it holds, and a hand that writes over it, spare room included.
type section struct {
	tell     func() string
	scribble func()
}

func sectionOf[E any](l []E, tell func(E) string) section {
	return section{
		func() (s string) {
			for _, x := range l {
				s += tell(x) + ";"
			}
			return s
		},
		func() { clear(l[:cap(l)]) },
	}
}

func bodySection(e api.Expr) section {
	return section{func() string { return told(e) }, func() { scribble(e) }}
}

func sectionsOf(m api.Module) []section {
	itself := func(s string) string { return s }
	l := []section{
		sectionOf(m.Exports, itself), sectionOf(m.Imports, func(x api.Import) string { return told(x) }), sectionOf(m.Types, func(def api.TypeDef) string { return def.Name }),
		sectionOf(m.Consts, func(def api.ConstDef) string { return def.Name }), sectionOf(m.Funs, func(def api.FunDef) string { return def.Name }),
	}
	for _, def := range m.Types {
		l = append(l, sectionOf(def.Cases, func(c api.Case) string { return c.Name }))
		for _, c := range def.Cases {
			l = append(l, sectionOf(c.Fields, itself))
		}
	}
	for _, def := range m.Consts {
		l = append(l, bodySection(def.Body))
	}
	for _, def := range m.Funs {
		l = append(l, bodySection(def.Body), sectionOf(def.Params, func(x api.Param) string { return told(x) }))
	}
	return l
}

// R2: what is written into one list of an answer, spare room included, is seen in no other list, nor in another answer.
func TestModuleSharesNoLists(t *testing.T) {
	want := moduleByCalls(wholeModule)
	wantModule(t, wholeModule, want)
	for i := range sectionsOf(want) {
		got, _, _ := parse.Module(wholeModule)
		l := sectionsOf(got)
		l[i].scribble()
		for k, x := range sectionsOf(want) {
			if k != i && l[k].tell() != x.tell() {
				t.Errorf("list %d shares memory with list %d: %s", k, i, l[k].tell())
			}
		}
		wantModule(t, wholeModule, want)
	}
}

// R2: no text of an answer keeps the source.
func TestModuleKeepsNoSource(t *testing.T) {
	s := strings.Clone(wholeModule)
	m, _, _ := parse.Module(s)
	from := uintptr(unsafe.Pointer(unsafe.StringData(s)))
	l := append([]string{m.Name}, m.Exports...)
	for _, x := range m.Imports {
		l = append(l, x.From, x.Name)
	}
	for _, def := range m.Types {
		l = append(l, def.Name)
		for _, c := range def.Cases {
			l = append(append(l, c.Name), c.Fields...)
		}
	}
	for _, def := range m.Consts {
		l = append(append(l, def.Name, def.Type), textsOf(def.Body)...)
	}
	for _, def := range m.Funs {
		l = append(append(l, def.Name, def.Type), textsOf(def.Body)...)
		for _, param := range def.Params {
			l = append(l, param.Name, param.Type)
		}
	}
	for _, piece := range l {
		if at := uintptr(unsafe.Pointer(unsafe.StringData(piece))); piece != "" && from <= at && at < from+uintptr(len(s)) {
			t.Errorf("%q is a piece of the source", piece)
		}
	}
}
