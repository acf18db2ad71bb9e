package parse_test

import (
	"math"
	"strings"
	"testing"

	"hawser/api"
	"hawser/parse"
	"hawser/tree"
)

// placeless is e without places.
func placeless(e api.Expr) api.Expr {
	e.At = 0
	kids := make([]api.Expr, len(e.Kids))
	for i, kid := range e.Kids {
		kids[i] = placeless(kid)
	}
	arms := make([]api.Arm, len(e.Arms))
	for i, arm := range e.Arms {
		arms[i] = api.Arm{Case: arm.Case, Vars: arm.Vars, Body: placeless(arm.Body)}
	}
	e.Kids, e.Arms = kids, arms
	return e
}

// toldPlaceless tells all of a module but its places.
func toldPlaceless(m api.Module) string {
	consts := make([]api.ConstDef, len(m.Consts))
	for i, def := range m.Consts {
		def.Body = placeless(def.Body)
		consts[i] = def
	}
	funs := make([]api.FunDef, len(m.Funs))
	for i, def := range m.Funs {
		def.Body = placeless(def.Body)
		funs[i] = def
	}
	m.Consts, m.Funs = consts, funs
	return told(m)
}

// wantRound: Module of Print is the module, but for places.
func wantRound(t *testing.T, m api.Module) {
	t.Helper()
	s := parse.Print(m)
	got, why, at := parse.Module(s)
	if toldPlaceless(got) != toldPlaceless(m) || why != api.OK || at != 0 {
		t.Errorf("Module of Print, %.200s: %s, %v at %d, want %s", s, toldPlaceless(got), why, at, toldPlaceless(m))
	}
}

// wantReadAgain: s is a module that is printed and read again.
func wantReadAgain(t *testing.T, s string) {
	t.Helper()
	why, at := caught(func() { wantModule(t, s, moduleByCalls(s)) })
	if why != api.OK {
		t.Errorf("%.200s: %v at %d", s, why, at)
	}
}

// P6.3: the modules that others' chapters and this one's runs speak of.
func TestPrint(t *testing.T) {
	for _, s := range []string{
		"(module m)", "(module m (fun f () num 1))", "(module m (import n f))", "(module m (export f))", "(module m (export a)(export)(export b A))", "(module m (import n a)(import k)(import n b)(import k c)(import n d))", wholeModule,
		"(module m (type T (A) (B num)) (fun f ((t T)) num (match t ((A) 1))))", "(module m (const a num b) (const b num 1))", "(module add (fun f () add.T (array T)))", "(module m(const c bytes\"\")(const d bytes\"x\"))",
		`(module m (fun f ((x num)) num (add x "a")) (fun g () bytes (cat "a" "b" x "c" (f) "d" 1 "e")))`, "(module m (const c num " + everything + "))",
	} {
		wantReadAgain(t, s)
	}
}

// P6.3: texts of each byte, alone and beside digits, in a row with Atoms.
func TestPrintTexts(t *testing.T) {
	for c := range 256 {
		m := api.Module{Name: "m", Consts: []api.ConstDef{{Name: "c", Type: "bytes", Body: text(0, string([]byte{byte(c)}))}, {Name: "d", Type: "bytes", Body: call(api.Op, 0, "cat", text(0, string([]byte{'x', byte(c), '4', '1'})), name(0, "x"), text(0, ""))}}}
		wantRound(t, m)
	}
	for _, s := range []string{"", "\"", "\\", "\\n", "\n", "\\x41", ";", "(", ")", "a b", "\x7f", "\xff\xfe", strings.Repeat("\x00", api.MaxText), strings.Repeat("\"", api.MaxText)} {
		wantRound(t, api.Module{Name: "m", Consts: []api.ConstDef{{Name: "c", Type: "bytes", Body: text(0, s)}}})
	}
}

// P6.3: numbers of two parts, each sign and edge.
func TestPrintNumbers(t *testing.T) {
	parts := []float64{0, 1, -1, 2, 10, -37, api.MaxPart, -api.MaxPart}
	for _, first := range parts {
		for _, second := range parts {
			n := number(0, complex(first, second))
			wantRound(t, api.Module{Name: "m", Consts: []api.ConstDef{{Name: "c", Type: "num", Body: call(api.Op, 0, "add", n, n, name(0, "x"), n)}}})
		}
	}
}

// P6.3: types of each form, of the own module and of others.
func TestPrintTypes(t *testing.T) {
	for _, s := range []string{"num", "bytes", "T", "m.T", "n.T", "num.Num", "(array num)", "(array (array T))", "(fn () num)", "(fn (num) num)", "(fn (num T n.T bytes m.U (array num)) (fn (T) T))", "(fn ((fn () T)) (fn () (fn () n.T)))", "(array (fn (T (array T)) num))", strings.Repeat("(array ", 30) + "T" + strings.Repeat(")", 30)} {
		wantReadAgain(t, "(module m (const c "+s+" (fn ((x "+s+") (y "+s+")) "+s+" (array "+s+" x 1))) (type T (A "+s+" "+s+") (B)) (fun f ((x "+s+")) "+s+" x))")
		wantReadAgain(t, "(module num (const c "+s+" x))")
	}
}

// P6.3 and P6.4: what Print makes is no longer than what Module read, so that the densest source of MaxSource bytes comes back too.
func TestPrintFull(t *testing.T) {
	for _, c := range []struct{ ahead, piece, behind string }{
		{"(module m(const c num(add", " x", ")))"}, {"(module m(const c num(add", "(f)", ")))"}, {"(module m(const c num(cat", `""`, ")))"}, {"(module m(const c num(cat", `"\n"x`, ")))"}, {"(module m(const c num(add", "(let x 1\"\")", ")))"},
		{"(module m(const c num(add", "(array(array T)x 1(f)\"\")", ")))"}, {"(module m(const c num(add", "(match x((A a)a)((n.B)\"\"))", ")))"}, {"(module m(const c num(add", "(fn((x T)(y(fn()n.U)))num(call f 1+2i\"a\"))", ")))"},
		{"(module m", "(import a)", "(export))"}, {"(module m", "(import a)(export)", ")"},
	} {
		s := c.ahead + strings.Repeat(c.piece, (api.MaxSource-len(c.ahead+c.behind))/len(c.piece)) + c.behind
		wantReadAgain(t, s)
		wantReadAgain(t, s+strings.Repeat(" ", api.MaxSource-len(s)))
	}
	wantReadAgain(t, "(module m"+strings.Repeat("(import nnnnnnnnnnnnnnnnnnnnnnnn a)(import o T)", 16)+"(export"+strings.Repeat(" aaaaaaaaaaaaaaaaaaaaaaaa", 32)+")"+strings.Repeat("(type T(A num T(array T)n.U)(B)(C)(D(fn()T))(E)(F))", 32)+strings.Repeat("(const c num 1)", 32)+strings.Repeat("(fun f((x T)(y num))T\"\\n\")", 32)+")")
	for _, s := range []string{"(module m(const c num -00012-0i)(const d num 0+003i)(const e bytes\"\\x41\\x0a\\x22\"))", "(module m (const c m.T (array m.T m.x)) (fun m () (fn (m.T) m.T) m.m))"} {
		wantReadAgain(t, s)
	}
}

// P6.3: as deep as a source may be.
func TestPrintDeep(t *testing.T) {
	for deep := 1; deep <= api.MaxNest-2; deep++ {
		wantReadAgain(t, "(module m (const c num "+strings.Repeat("(neg ", deep)+"x"+strings.Repeat(")", deep)+"))")
		wantReadAgain(t, "(module m (const c "+strings.Repeat("(array ", deep)+"T"+strings.Repeat(")", deep)+" x))")
		wantReadAgain(t, "(module m (fun f () "+strings.Repeat("(fn ((array T)) ", deep/2)+"T"+strings.Repeat(")", deep/2)+" x))")
	}
	wantRefused(t, "(module m (const c num "+strings.Repeat("(neg ", api.MaxNest-1)+"x"+strings.Repeat(")", api.MaxNest-1)+"))", api.ErrNest, 213)
}

// R1: expressions far deeper than a source are printed.
func TestPrintDeeper(t *testing.T) {
	x := atom(0, "y")
	for deep := range 1 << 18 {
		x = wrap(x, deep)
	}
	e, why, _ := parse.Expr(x, "m")
	if why != api.OK {
		t.Fatal(why)
	}
	s := parse.Print(api.Module{Name: "m", Consts: []api.ConstDef{{Name: "c", Type: "num", Body: e}}})
	if want := strings.ReplaceAll(tree.Print(x), " ", ""); strings.ReplaceAll(s, " ", "") != "(modulem(constcnum"+want+"))" {
		t.Errorf("%d bytes, of %d", len(s), len(want))
	}
}

// R1: modules that Module does not make are printed somehow.
func TestPrintOfAnything(t *testing.T) {
	odd := []api.Expr{{}, {Kind: -1, Name: "x"}, {Kind: 99, Kids: []api.Expr{{}}}, number(0, complex(math.NaN(), math.Inf(1))), number(0, 0.5), text(0, strings.Repeat("a", 1<<16)), name(0, ""), name(0, "a b\x00("), {Kind: api.Match, Arms: []api.Arm{{}, {Vars: []string{""}}}}, {Kind: api.Lambda, Params: []api.Param{{}}}, {Kind: api.List, Type: "[x"}, {Kind: api.List, Type: strings.Repeat("[", 1<<16)}}
	some := odd
	for kind := range 14 {
		odd = append(odd, api.Expr{Kind: kind}, api.Expr{Kind: kind, Name: "f", Kids: some, Arms: []api.Arm{{Case: "A", Body: some[0]}}})
	}
	for _, e := range odd {
		s := parse.Print(api.Module{Name: "m", Imports: []api.Import{{}, {Name: "x"}}, Exports: []string{"", "1"}, Types: []api.TypeDef{{}, {Cases: []api.Case{{Fields: []string{"", "()"}}}}}, Consts: []api.ConstDef{{}, {Body: e}}, Funs: []api.FunDef{{}, {Params: []api.Param{{}}, Body: e}}})
		if !strings.HasPrefix(s, "(module m(import") || strings.Count(s, "(import") != 1 || !strings.HasSuffix(s, "))") {
			t.Errorf("%.200s", s)
		}
	}
	if s := parse.Print(api.Module{}); !strings.HasPrefix(s, "(module") {
		t.Errorf("%q", s)
	}
	many := api.Module{Name: "m"}
	for range 1000 {
		many.Exports = append(many.Exports, "a")
	}
	wantRefused(t, parse.Print(many), api.ErrMany, 0)
}

// P6.3 and R4: nil and empty lists are printed alike; a 0 that is below 0 is 0.
func TestPrintAlike(t *testing.T) {
	e := api.Expr{Kind: api.Lambda, Type: "num", Kids: []api.Expr{number(0, complex(math.Copysign(0, -1), math.Copysign(0, -1)))}, Params: []api.Param{}, Arms: []api.Arm{}}
	got := parse.Print(api.Module{Name: "m", Imports: []api.Import{}, Exports: []string{}, Types: []api.TypeDef{}, Consts: []api.ConstDef{}, Funs: []api.FunDef{{Name: "f", Params: []api.Param{}, Type: "num", Body: e}}})
	e = api.Expr{Kind: api.Lambda, Type: "num", Kids: []api.Expr{number(0, 0)}}
	if want := parse.Print(api.Module{Name: "m", Funs: []api.FunDef{{Name: "f", Type: "num", Body: e}}}); got != want {
		t.Errorf("%s, want %s", got, want)
	}
	wantReadAgain(t, got)
}

// R2: Print changes nothing of what it is handed, spare room included.
func TestPrintChangesNothing(t *testing.T) {
	m := moduleByCalls(wholeModule)
	m.Exports = append(m.Exports, "spare")
	m.Imports = append(m.Imports, api.Import{From: "spare"})
	m.Funs = append(m.Funs, api.FunDef{Name: "spare"})
	kids := append(m.Funs[0].Body.Kids, text(0, "spare"))
	whole := told(m) + told(kids)
	part := m
	part.Exports, part.Imports, part.Funs = m.Exports[:2], m.Imports[:3], m.Funs[:2]
	wantRound(t, part)
	if toldPlaceless(part) != toldPlaceless(moduleByCalls(wholeModule)) || told(m)+told(kids) != whole {
		t.Errorf("changed: %s", told(m)+told(kids))
	}
}
