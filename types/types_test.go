package types_test

import (
	"fmt"
	"math/rand"
	"regexp"
	"slices"
	"strings"
	"testing"
	"unsafe"

	"hawser/api"
	"hawser/lex"
	"hawser/tree"
	"hawser/types"
)

func list(at int, kids ...tree.Tree) tree.Tree {
	return tree.Tree{Kind: lex.Open, At: at, Kids: kids}
}

func atom(at int, text string) tree.Tree { return tree.Tree{Kind: lex.Atom, At: at, Text: text} }

func quoted(at int, text string) tree.Tree { return tree.Tree{Kind: lex.Quoted, At: at, Text: text} }

func parsed(t *testing.T, s string) tree.Tree {
	t.Helper()
	x, why, at := tree.Parse(s)
	if why != api.OK {
		t.Fatalf("Parse(%.60q): %v at %d", s, why, at)
	}
	return x
}

func wantRight(t *testing.T, s string, want bool) {
	t.Helper()
	if types.Right(s) != want {
		t.Errorf("Right(%.60q) of %d bytes: %v", s, len(s), !want)
	}
}

func wantElem(t *testing.T, s, want string) {
	t.Helper()
	if elem, ok := types.Elem(s); elem != want || ok != (want != "") {
		t.Errorf("Elem(%.60q): %q, %v, want %q", s, elem, ok, want)
	}
}

func wantParts(t *testing.T, s string, params []string, result string) {
	t.Helper()
	if l, r, ok := types.Parts(s); !slices.Equal(l, params) || r != result || ok != (result != "") {
		t.Errorf("Parts(%.60q): %q, %q, %v, want %q, %q", s, l, r, ok, params, result)
	}
}

func wantNamed(t *testing.T, s, module, name string) {
	t.Helper()
	if m, n, ok := types.Named(s); m != module || n != name || ok != (name != "") {
		t.Errorf("Named(%.60q): %q, %q, %v, want %q, %q", s, m, n, ok, module, name)
	}
}

func wantNames(t *testing.T, s string, want ...string) {
	t.Helper()
	if got := types.Names(s); !slices.Equal(got, want) {
		t.Errorf("Names(%.60q): %q, want %q", s, got, want)
	}
}

// wantNone: s is no type, so that no call tells anything of it.
func wantNone(t *testing.T, s string) {
	t.Helper()
	wantRight(t, s, false)
	wantElem(t, s, "")
	wantParts(t, s, nil, "")
	wantNamed(t, s, "", "")
	wantNames(t, s)
}

func wantText(t *testing.T, x tree.Tree, module, want string) {
	t.Helper()
	if got, why, at := types.Read(x, module); got != want || why != api.OK || at != 0 {
		t.Errorf("Read(%.60s): %q, %v at %d, want %q", tree.Print(x), got, why, at, want)
	}
}

func wantRefusal(t *testing.T, x tree.Tree, module string, why api.Errno, at int) {
	t.Helper()
	if got, gotWhy, gotAt := types.Read(x, module); got != "" || gotWhy != why || gotAt != at {
		t.Errorf("Read(%.60s): %q, %v at %d, want %v at %d", tree.Print(x), got, gotWhy, gotAt, why, at)
	}
}

// wantRead: as wantText, of a source.
func wantRead(t *testing.T, s, want string) {
	t.Helper()
	wantText(t, parsed(t, s), "m", want)
}

// wantRefused: as wantRefusal, of a source.
func wantRefused(t *testing.T, s string, why api.Errno, at int) {
	t.Helper()
	wantRefusal(t, parsed(t, s), "m", why, at)
}

func TestRuns(t *testing.T) {
	wantRead(t, `(fn (num T) (array o.U))`, "(num,m.T)[o.U]")
	wantParts(t, "(num)(num)num", []string{"num"}, "(num)num")
	wantRight(t, "[num", false)
	wantRight(t, "m.t", false)
}

func TestExamples(t *testing.T) {
	wantParts(t, "()num", nil, "num")
	wantNames(t, "(a.B)a.B", "a.B")
	wantRefused(t, `"num"`, api.ErrForm, 0)
}

var rights = []string{
	"num", "bytes", "[num]", "[bytes]", "[m.T]", "[[num]]", "[[[_.T]]]", "()num", "()bytes", "()m.T", "()[num]", "()()num", "()()()m.T",
	"(num)num", "(bytes)num", "(m.T)o.U", "([num])num", "(()num)num", "((num)num)num", "(num)()num", "(num)(num)num", "(num)[num]",
	"(num,bytes)num", "(num,[m.T],()num)bytes", "([num],[[num]])[[[num]]]", "((num,m.T)bytes,(num)(num)num)(bytes,o.U)[num]", "[()num]", "[(num,num)num]", "[()[()num]]",
	"m.T", "_.T", "a_1.B_2", "num.T", "bytes.Num", "[num.Num]", "(num.T,bytes.T)num.T", "num_.N", "array.Fn",
	"(num,num,num,num,num,num)num", "((num,num,num,num,num,num)num,num,num,num,num,num)(num,num,num,num,num,num)num", "[(m.T,m.T,m.T,m.T,m.T,m.T)m.T]",
}

// P5.1: ordinary types; of each, exactly what it is made of is told.
func TestRight(t *testing.T) {
	for _, s := range rights {
		wantRight(t, s, true)
		_, isArray := types.Elem(s)
		_, _, isFunc := types.Parts(s)
		_, _, isNamed := types.Named(s)
		if isArray != (s[0] == '[') || isFunc != (s[0] == '(') || isNamed != (strings.Contains(s, ".") && !strings.ContainsAny(s, "[(")) {
			t.Errorf("%q: %v, %v, %v", s, isArray, isFunc, isNamed)
		}
	}
}

// P5.1: texts that are no types.
func TestNotRight(t *testing.T) {
	for _, s := range []string{
		"", " ", "num ", " num", "nu", "numm", "Num", "NUM", "byte", "bytess", "Bytes", "x", "T", "_", ".", "0", "fn", "array", "int",
		"[", "]", "[]", "[ num]", "[num", "num]", "[num]]", "[[num]", "[num)", "[num,num]", "[num,]", "[,num]", "[num]num", "[num][num]", "num[num]", "[num]()num", "[()]", "[(num)]", "[num](", "[T]",
		"(", ")", "()", "())", "(()", "(num", "(num)", "num)", "(num]num", "(num))num", "((num)num", "(num)num)", "(num)num,", "(num)num num", "(num) num", "( num)num", "(num, num)num", "(num,)num", "(,num)num", "(,)num", "(num,,num)num", "(num;num)num", "(num num)num", "(x)num", "(num)x", "(())num", "((num))num", "()()", "(num)numnum", "num()num", "num(num)num",
		",", "num,", "num,num", ",num", "numnum", "num.num",
		"(num,num,num,num,num,num,num)num", "[(num,num,num,num,num,num,num)num]", "((num,num,num,num,num,num,num)num)num", "()(num,num,num,num,num,num,num)num", "(m.T,m.T,m.T,m.T,m.T,m.T,m.T,m.T)m.T",
		"m", "m.", ".T", "m.t", "m._", "m.1", "M.T", "1.T", "m..T", "m.T.", "m.T.U", "m.n.T", "m.T.t", ".m.T", "m .T", "m. T", "m.T ", "m,T", "m.T\x00", "m\x00.T", "m.T\n", "é.T", "m.É", "m.Té", "m-n.T", "m.T-U", "num.", ".num", "num.num", "num.T.U",
		"\x00", "\xff", "nu\xff", "num\x00", "\xc3", "[\xff]", "(\xff)num", "(num)\xff", "()\xff\xff\xff\xff\xff\xff\xff\xff\xff",
	} {
		wantNone(t, s)
	}
}

// P5.1: names as long as may be, and one longer, with each byte that a name may have or not.
func TestNamesOfTypes(t *testing.T) {
	value, big := "a"+strings.Repeat("b", api.MaxName-1), "C"+strings.Repeat("d", api.MaxName-1)
	for _, form := range []string{"%s", "[%s]", "(%s)num", "()%s", "(num,%s)num"} {
		wantRight(t, fmt.Sprintf(form, value+"."+big), true)
		wantNone(t, fmt.Sprintf(form, value+"b."+big))
		wantNone(t, fmt.Sprintf(form, value+"."+big+"d"))
		wantNone(t, fmt.Sprintf(form, value+"b.T"))
		wantNone(t, fmt.Sprintf(form, "m."+big+"d"))
	}
	wantNamed(t, value+"."+big, value, big)
	for c := range 256 {
		one := string([]byte{byte(c)})
		for _, s := range []string{one, "a" + one, "A" + one} {
			if lex.Value(s) {
				wantNamed(t, s+".T", s, "T")
			} else {
				wantNone(t, s+".T")
			}
			if lex.Big(s) {
				wantNamed(t, "m."+s, "m", s)
			} else {
				wantNone(t, "m."+s)
			}
		}
	}
}

var (
	wordRule  = regexp.MustCompile(`[^\[\](),]+`)
	rightRule = regexp.MustCompile(`^(num|bytes|[a-z_][A-Za-z0-9_]{0,23}\.[A-Z][A-Za-z0-9_]{0,23})$`)
	bigRule   = regexp.MustCompile(`^[A-Z][A-Za-z0-9_]{0,23}$`)
	innerRule = regexp.MustCompile(`\[#\]|\((#(,#){0,5})?\)#`)
)

// rightByRules is Right told once more: what is known for a type is written as #, until nothing but that is left.
func rightByRules(s string) bool {
	if len(s) > 200 || strings.Contains(s, "#") {
		return false
	}
	s = wordRule.ReplaceAllStringFunc(s, func(word string) string {
		if rightRule.MatchString(word) {
			return "#"
		}
		return word
	})
	for ahead := ""; ahead != s; {
		ahead, s = s, innerRule.ReplaceAllLiteralString(s, "#")
	}
	return s == "#"
}

func namesByRules(s string) []string {
	if !rightByRules(s) {
		return nil
	}
	names := []string{}
	for _, word := range wordRule.FindAllString(s, -1) {
		if strings.Contains(word, ".") && !slices.Contains(names, word) {
			names = append(names, word)
		}
	}
	slices.Sort(names)
	return names
}

func wantAsByRules(t *testing.T, s string) {
	t.Helper()
	if !rightByRules(s) {
		wantNone(t, s)
		return
	}
	wantRight(t, s, true)
	wantNames(t, s, namesByRules(s)...)
	elem, isArray := types.Elem(s)
	params, result, isFunc := types.Parts(s)
	module, name, isNamed := types.Named(s)
	switch {
	case isArray && !isFunc && !isNamed && s == "["+elem+"]" && rightByRules(elem):
	case !isArray && isFunc && !isNamed && s == "("+strings.Join(params, ",")+")"+result && rightByRules(result) && !slices.ContainsFunc(params, func(p string) bool { return !rightByRules(p) }):
	case !isArray && !isFunc && isNamed && s == module+"."+name && !strings.Contains(name, "."):
	case !isArray && !isFunc && !isNamed && (s == "num" || s == "bytes"):
	default:
		t.Errorf("%q: Elem %q, %v, Parts %q, %q, %v, Named %q, %q, %v", s, elem, isArray, params, result, isFunc, module, name, isNamed)
	}
}

// P5.1: all short rows of what types are made of.
func TestAgainstRules(t *testing.T) {
	rows := []string{""}
	for range 7 {
		var longer []string
		for _, row := range rows {
			wantAsByRules(t, row)
			for _, piece := range []string{"[", "]", "(", ")", ",", "m.T"} {
				longer = append(longer, row+piece)
			}
		}
		rows = longer
	}
}

// P5.1: a type that is cut off, goes on, or has a wrong byte, at each place.
func TestTurned(t *testing.T) {
	for _, s := range rights {
		for i := range len(s) {
			wantAsByRules(t, s[:i])
			wantAsByRules(t, s[i:])
			for _, piece := range []string{"[", "]", "(", ")", ",", ".", " ", "num", "m.T", "x", "X", "\x00", "()", "[num]", "()num"} {
				wantAsByRules(t, s[:i]+piece+s[i:])
				wantAsByRules(t, s[:i]+piece+s[i+1:])
				wantAsByRules(t, s+piece)
			}
			wantAsByRules(t, s[:i]+s[i+1:])
		}
	}
}

// someType makes a type by chance; it may be too long.
func someType(r *rand.Rand, deep int) string {
	switch n := r.Intn(7); {
	case n < 3 || deep == 0:
		return []string{"num", "bytes", "m.T", "o.U", "a.Bb", "num.T"}[r.Intn(6)]
	case n == 3:
		return "[" + someType(r, deep-1) + "]"
	}
	var params []string
	for range r.Intn(8) {
		params = append(params, someType(r, deep-1))
	}
	return "(" + strings.Join(params, ",") + ")" + someType(r, deep-1)
}

func TestAgainstRulesByChance(t *testing.T) {
	r := rand.New(rand.NewSource(1))
	for range 20000 {
		s := []byte(someType(r, 4))
		wantAsByRules(t, string(s))
		s[r.Intn(len(s))] = "[](),.mTn\xff"[r.Intn(10)]
		wantAsByRules(t, string(s))
	}
}

// ofSize is a type of just that many bytes: arrays within arrays.
func ofSize(size int) string {
	deep := (size - 4) / 2
	return strings.Repeat("[", deep) + "m." + "Tttt"[:2+size%2] + strings.Repeat("]", deep)
}

// P5.1: just MaxText bytes, and one more, of each form.
func TestTextLimit(t *testing.T) {
	for size := 8; size <= api.MaxText; size++ {
		wantRight(t, ofSize(size), true)
	}
	for _, form := range []string{"[%s]", "(%s)num", "(num,%s)num", "()%s", "(num)(num)%s", "[(m.T)%s]"} {
		inner := api.MaxText - len(form) + len("%s")
		wantRight(t, fmt.Sprintf(form, ofSize(inner-1)), true)
		wantRight(t, fmt.Sprintf(form, ofSize(inner)), true)
		wantNone(t, fmt.Sprintf(form, ofSize(inner+1)))
		wantNone(t, fmt.Sprintf(form, ofSize(inner+2)))
	}
	wantElem(t, "["+ofSize(api.MaxText-2)+"]", ofSize(api.MaxText-2))
	wantParts(t, "("+ofSize(api.MaxText-5)+")num", []string{ofSize(api.MaxText - 5)}, "num")
	wantParts(t, "()"+ofSize(api.MaxText-2), nil, ofSize(api.MaxText-2))
	wantNames(t, ofSize(api.MaxText), "m.Tt")
	wantRight(t, strings.Repeat("()", 98)+"a.Bb", true)
	wantRight(t, strings.Repeat("()", 98)+"a.B", true)
	wantNone(t, strings.Repeat("()", 98)+"bytes")
	wantRight(t, strings.Repeat("(", 28)+"num"+strings.Repeat(")num", 28), true)
	for _, piece := range []string{"[", "]", "(", ")", ",", "a", "()", "(a.B)", "num", "[num]", ".", "\xff"} {
		wantNone(t, strings.Repeat(piece, 67))
		wantNone(t, strings.Repeat(piece, 1<<20))
		wantNone(t, strings.Repeat(piece, 1<<20)+"num")
	}
}

// P5.1: up to MaxParams parameters, wherever the function stands.
func TestParamLimit(t *testing.T) {
	for n := range api.MaxParams + 3 {
		params := make([]string, n)
		for i := range params {
			params[i] = []string{"num", "m.T", "[num]", "()num"}[i%4]
		}
		s := types.Func(params, "bytes")
		if n <= api.MaxParams {
			wantParts(t, s, params, "bytes")
		} else {
			wantNone(t, s)
		}
		for _, form := range []string{"[%s]", "(%s)num", "(num,%s,num)num", "()%s", "(num,num,num,num,num,%s)num", "(num,num,num,num,num,num)%s"} {
			wantRight(t, fmt.Sprintf(form, s), n <= api.MaxParams)
		}
	}
}

// P5.1: the parts of ordinary types.
func TestPartsOf(t *testing.T) {
	wantElem(t, "[num]", "num")
	wantElem(t, "[[m.T]]", "[m.T]")
	wantElem(t, "[()[num]]", "()[num]")
	for _, s := range []string{"num", "bytes", "m.T", "()[num]", "([num])[num]"} {
		wantElem(t, s, "")
	}
	wantParts(t, "(num)num", []string{"num"}, "num")
	wantParts(t, "()()num", nil, "()num")
	wantParts(t, "(()num)num", []string{"()num"}, "num")
	wantParts(t, "((num,num)num,[(bytes)m.T],m.T)(a.B,num)[num]", []string{"(num,num)num", "[(bytes)m.T]", "m.T"}, "(a.B,num)[num]")
	for _, s := range []string{"num", "bytes", "m.T", "[()num]", "[(num)num]"} {
		wantParts(t, s, nil, "")
	}
	wantNamed(t, "m.T", "m", "T")
	wantNamed(t, "num.Bytes", "num", "Bytes")
	for _, s := range []string{"num", "bytes", "[m.T]", "()m.T", "(m.T)num"} {
		wantNamed(t, s, "", "")
	}
}

// P5.1: each name once, in order of bytes: large letters ahead of _, that ahead of small ones, the point ahead of letters and digits.
func TestNames(t *testing.T) {
	wantNames(t, "num")
	wantNames(t, "(num,[bytes])()num")
	wantNames(t, "m.T", "m.T")
	wantNames(t, "[[m.T]]", "m.T")
	wantNames(t, "(m.T,[a.B],num)(m.T)a.A", "a.A", "a.B", "m.T")
	wantNames(t, "(m.T,m.T,m.T)[m.T]", "m.T")
	wantNames(t, "(z.Z,a.A)m.M", "a.A", "m.M", "z.Z")
	wantNames(t, "(ab.C,a.C,a1.C,aB.C,a_.C)a.Ca", "a.C", "a.Ca", "a1.C", "aB.C", "a_.C", "ab.C")
	wantNames(t, "(a.Ba,a.B_,a.BZ,a.B9,a.B)_.B", "_.B", "a.B", "a.B9", "a.BZ", "a.B_", "a.Ba")
	wantNames(t, "(b.A,a.B)b.A", "a.B", "b.A")
	wantNames(t, "(num.T,bytes.B)num", "bytes.B", "num.T")
	wantNames(t, "((b.B,a.A)c.C,[(a.A)[d.D]])(b.B)(c.C)a.A", "a.A", "b.B", "c.C", "d.D")
	many := "(" + strings.Repeat("b.A,", 5) + "a.A)" + strings.Repeat("(b.A,a.A)", 19) + "b.A"
	wantNames(t, many, "a.A", "b.A")
}

// P5.1: Array and Func write whatever they are given.
func TestWritten(t *testing.T) {
	for _, s := range []string{"", "num", "x y", "[", "]]", "\x00\xff", strings.Repeat("a", 1000)} {
		if got := types.Array(s); got != "["+s+"]" {
			t.Errorf("Array(%.60q): %.60q", s, got)
		}
	}
	for _, c := range []struct {
		params []string
		result string
		want   string
	}{
		{nil, "", "()"}, {[]string{}, "num", "()num"}, {[]string{""}, "num", "()num"}, {[]string{"", ""}, "", "(,)"}, {[]string{"", "q"}, "", "(,q)"},
		{[]string{"num"}, "m.T", "(num)m.T"}, {[]string{"num", "()num", "x y"}, ")", "(num,()num,x y))"}, {[]string{"a", "b", "c", "d", "e", "f", "g", "h"}, "i", "(a,b,c,d,e,f,g,h)i"},
		{[]string{"\xff", "\x00"}, "\n", "(\xff,\x00)\n"}, {make([]string, 1000), strings.Repeat("r", 1000), "(" + strings.Repeat(",", 999) + ")" + strings.Repeat("r", 1000)},
	} {
		if got := types.Func(c.params, c.result); got != c.want {
			t.Errorf("Func(%.60q, %.60q): %.60q", c.params, c.result, got)
		}
	}
}

// P5.3: what Array and Func make of types, by chance, and of types that leave just enough room or one byte too little.
func TestMade(t *testing.T) {
	r := rand.New(rand.NewSource(2))
	for range 20000 {
		result := someType(r, 3)
		var params []string
		for range r.Intn(api.MaxParams + 1) {
			params = append(params, someType(r, 2))
		}
		if !types.Right(result) || slices.ContainsFunc(params, func(p string) bool { return !types.Right(p) }) {
			continue
		}
		wantMade(t, params, result)
	}
	for size := 8; size <= api.MaxText; size++ {
		wantMade(t, nil, ofSize(size))
		wantMade(t, []string{"num"}, ofSize(size))
		wantMade(t, []string{"m.T", ofSize(size)}, "()num")
	}
}

func wantMade(t *testing.T, params []string, result string) {
	t.Helper()
	if s := types.Array(result); len(s) <= api.MaxText {
		wantRight(t, s, true)
		wantElem(t, s, result)
	} else {
		wantNone(t, s)
	}
	if s := types.Func(params, result); len(s) <= api.MaxText {
		wantRight(t, s, true)
		wantParts(t, s, params, result)
	} else {
		wantNone(t, s)
	}
}

// P5.2: ordinary trees.
func TestRead(t *testing.T) {
	for s, want := range map[string]string{
		"num": "num", "bytes": "bytes", "T": "m.T", "Num": "m.Num", "B_1": "m.B_1", "o.T": "o.T", "m.T": "m.T", "_.T": "_.T", "num.T": "num.T", "array.Fn": "array.Fn", "fn.Fn": "fn.Fn",
		"(array num)": "[num]", "(array T)": "[m.T]", "(array (array o.U))": "[[o.U]]", "(array (fn () num))": "[()num]",
		"(fn () num)": "()num", "(fn (num) num)": "(num)num", "(fn (T o.T bytes) U)": "(m.T,o.T,bytes)m.U", "(fn () (fn () num))": "()()num", "(fn (num) (fn (T) num))": "(num)(m.T)num", "(fn ((fn (num) T)) num)": "((num)m.T)num",
		"(fn ((array num) (fn () T)) (array (array T)))": "([num],()m.T)[[m.T]]", "(fn (num num num num num num) num)": "(num,num,num,num,num,num)num", " ( array ; x\n num ) ": "[num]",
	} {
		wantRead(t, s, want)
	}
}

// P5.2: what is no type, at the tree that is none; Kids that are no types of a tree that is none are not looked at.
func TestReadForm(t *testing.T) {
	for _, s := range []string{
		"x", "_", "nums", "byte", "array", "fn", "1", "+", "m.", ".T", ".", "m.t", "M.T", "m.T.U", "m..T", "m.n.T", "1.T", "m.T.", "T.U", "num.num", "[num]", "num,", "'",
		`"num"`, `"bytes"`, `"T"`, `"m.T"`, `""`, "()", "(())", "((array num))", "(num)", "(T)", "(o.T)", "(x x)", "(num num)", "(T num)", "(arrays num)", "(Array num)", "(m.array num)",
		"(array)", "(array num num)", "(array x y)", "(array array num)", `("array" num)`, "((array) num)", "(array () ())", "(num array)",
		"(fn)", "(fn num)", "(fn ())", "(fn num num)", "(fn () num num)", "(fn (num) num num)", "(fn x y)", `(fn "" num)`, `("fn" () num)`, "((fn) () num)", "(fn () x y)", "(fn (x))", "(fn fn num)", "(array () num)", "(fn num ())", "(() fn num)", "(fn num (num))",
	} {
		wantRefused(t, s, api.ErrForm, 0)
		for _, form := range []string{"(array %s)", "(fn (%s) num)", "(fn (num %s x) y)", "(fn () %s)", "(array (fn (T (array %s) ()) x))", "(fn (num num num num num num %s) num)", "(fn (num num num num num num num) %s)"} {
			wantRefused(t, fmt.Sprintf(form, s), api.ErrForm, strings.Index(form, "%s"))
		}
	}
	value, big := "a"+strings.Repeat("b", api.MaxName-1), "C"+strings.Repeat("d", api.MaxName-1)
	wantRead(t, big, "m."+big)
	wantRead(t, value+"."+big, value+"."+big)
	wantRefused(t, big+"d", api.ErrForm, 0)
	wantRefused(t, value+"b."+big, api.ErrForm, 0)
	wantRefused(t, value+"."+big+"d", api.ErrForm, 0)
}

// P5.2: of several refusals the first from the left, Kids ahead of their tree.
func TestFirstRefusal(t *testing.T) {
	seven := "num num num num num num num"
	wantRefused(t, "(fn (x) y)", api.ErrForm, 5)
	wantRefused(t, "(fn (num x y) z)", api.ErrForm, 9)
	wantRefused(t, "(fn (num (array x) y) z)", api.ErrForm, 16)
	wantRefused(t, "(fn ((fn (x) y)) z)", api.ErrForm, 10)
	wantRefused(t, "(fn ("+seven+") num)", api.ErrCount, 0)
	wantRefused(t, "(fn ("+seven+") x)", api.ErrForm, 34)
	wantRefused(t, "(fn (x "+seven+") y)", api.ErrForm, 5)
	wantRefused(t, "(fn ("+seven+" x) num)", api.ErrForm, 33)
	wantRefused(t, "(array (fn ("+seven+") num))", api.ErrCount, 7)
	wantRefused(t, "(fn ((fn ("+seven+") num) x) num)", api.ErrCount, 5)
	wantRefused(t, "(fn (x (fn ("+seven+") num)) num)", api.ErrForm, 5)
	wantRefused(t, "(fn ((fn ("+seven+") num) "+seven+") num)", api.ErrCount, 5)
	wantRefused(t, "(fn ("+seven+") (fn ("+seven+") num))", api.ErrCount, 34)
	wantRefused(t, "(fn ("+seven+") num num)", api.ErrForm, 0)
}

// P5.2: the text of each tree is looked at, a part's ahead of the whole's; ErrCount ahead of ErrLong.
func TestReadLong(t *testing.T) {
	name := "a" + strings.Repeat("b", api.MaxName-1) + ".C" + strings.Repeat("d", api.MaxName-1)
	four := name + " " + name + " " + name + " " + name
	seven := four + " " + name + " " + name + " " + name
	wantRead(t, "(fn ("+name+" "+name+" "+name+") "+name+")", "("+name+","+name+","+name+")"+name)
	wantRefused(t, "(fn ("+four+") num)", api.ErrLong, 0)
	wantRefused(t, "(array (fn ("+four+") num))", api.ErrLong, 7)
	wantRefused(t, "(fn ("+four+") x)", api.ErrForm, strings.Index("(fn ("+four+") x)", "x"))
	wantRefused(t, "(fn ((fn ("+four+") num) x) y)", api.ErrLong, 5)
	wantRefused(t, "(fn (x (fn ("+four+") num)) y)", api.ErrForm, 5)
	wantRefused(t, "(fn ("+seven+") num)", api.ErrCount, 0)
	wantRefused(t, "(fn ("+seven+") (fn ("+four+") num))", api.ErrLong, 9+len(seven)-2)
}

// nested is t within arrays, the innermost of them at 1.
func nested(t tree.Tree, deep int) tree.Tree {
	for at := range deep {
		t = list(at+1, atom(0, "array"), t)
	}
	return t
}

// P5.2: just MaxText bytes, and one more; the innermost tree that is too long is told. R1: trees much deeper than those that Parse makes.
func TestReadDeep(t *testing.T) {
	for _, leaf := range []string{"num", "bytes", "o.T", "o.Tt", "oo.Ttt", "T", "Tt", "Ttt"} {
		text := leaf
		if lex.Big(leaf) {
			text = "m." + leaf
		}
		most := (api.MaxText - len(text)) / 2
		for _, deep := range []int{0, 1, most - 1, most} {
			wantText(t, nested(atom(0, leaf), deep), "m", strings.Repeat("[", deep)+text+strings.Repeat("]", deep))
		}
		for _, deep := range []int{most + 1, most + 2, 1 << 16} {
			wantRefusal(t, nested(atom(0, leaf), deep), "m", api.ErrLong, most+1)
		}
	}
	wantRefusal(t, nested(atom(0, "num"), 1<<20), "m", api.ErrLong, 99)
	for _, deep := range []int{1, 98, 99, 100, 1 << 16, 1 << 20} {
		wantRefusal(t, nested(quoted(-1, "num"), deep), "m", api.ErrForm, -1)
		wantRefusal(t, nested(list(-2, atom(0, "array")), deep), "m", api.ErrForm, -2)
	}
}

// R1: functions that give and take functions, deeper than any text.
func TestReadDeepFunctions(t *testing.T) {
	gives, takes := atom(0, "num"), atom(0, "num")
	for at := range 1 << 18 {
		gives = list(at+1, atom(0, "fn"), list(0), gives)
		takes = list(at+1, atom(0, "fn"), list(0, takes), atom(0, "num"))
		switch n := at + 1; n {
		case 1, 2, 98:
			wantText(t, gives, "m", strings.Repeat("()", n)+"num")
		case 99, 100, 1 << 18:
			wantRefusal(t, gives, "m", api.ErrLong, 99)
		}
		switch n := at + 1; n {
		case 1, 2, 39:
			wantText(t, takes, "m", strings.Repeat("(", n)+"num"+strings.Repeat(")num", n))
		case 40, 41, 1 << 18:
			wantRefusal(t, takes, "m", api.ErrLong, 40)
		}
	}
}

// P5.2 and R1: far more parameters than may be, each of them looked at.
func TestReadWide(t *testing.T) {
	many := make([]tree.Tree, 1<<18)
	for i := range many {
		many[i] = atom(i, "num")
	}
	x := list(-1, atom(0, "fn"), list(-2, many...), atom(0, "num"))
	wantRefusal(t, x, "m", api.ErrCount, -1)
	many[len(many)-1].Text = "x"
	wantRefusal(t, x, "m", api.ErrForm, len(many)-1)
	x.Kids[0].Text = "array"
	wantRefusal(t, x, "m", api.ErrForm, -1)
	wantRefusal(t, list(-3, many...), "m", api.ErrForm, -3)
	for n := range api.MaxParams + 3 {
		x := list(-1, atom(0, "fn"), list(-2, many[:n]...), atom(0, "num"))
		if n <= api.MaxParams {
			wantText(t, x, "m", types.Func(slices.Repeat([]string{"num"}, n), "num"))
		} else {
			wantRefusal(t, x, "m", api.ErrCount, -1)
		}
	}
}

// P5.2: the module is put ahead of a Big as it is; with a long one the Atom itself is too long.
func TestReadModule(t *testing.T) {
	for _, module := range []string{"", "m", "num", "M", "a.b", "x y", "\x00\xff", strings.Repeat("m", api.MaxText-2)} {
		wantText(t, atom(7, "T"), module, module+".T")
		wantText(t, atom(7, "o.T"), module, "o.T")
		wantText(t, atom(7, "num"), module, "num")
		wantRefusal(t, atom(7, "x"), module, api.ErrForm, 7)
	}
	for _, long := range []string{strings.Repeat("m", api.MaxText-1), strings.Repeat("m", 1<<20)} {
		wantRefusal(t, atom(7, "T"), long, api.ErrLong, 7)
		wantRefusal(t, list(5, atom(0, "array"), atom(7, "T")), long, api.ErrLong, 7)
		wantRefusal(t, list(5, atom(0, "fn"), list(6, atom(7, "num"), atom(8, "T"), atom(9, "x")), atom(10, "T")), long, api.ErrLong, 8)
		wantText(t, list(5, atom(0, "array"), atom(7, "o.T")), long, "[o.T]")
		wantRefusal(t, atom(7, "x"), long, api.ErrForm, 7)
	}
	edge := strings.Repeat("m", api.MaxText-4)
	wantText(t, list(5, atom(0, "array"), atom(7, "T")), edge, "["+edge+".T]")
	wantRefusal(t, list(5, atom(0, "array"), atom(7, "T")), edge+"m", api.ErrLong, 5)
}

// P5.2: trees as Parse makes none: other Kinds, Atoms with Kids, an Open with a Text, any place.
func TestReadOtherTrees(t *testing.T) {
	kids := []tree.Tree{atom(3, "array"), atom(4, "num")}
	for _, kind := range []int{0, lex.Close, lex.Quoted, lex.Quoted + 1, -1, lex.Atom + 256, lex.Open - 256, 1 << 62, -1 << 63} {
		other := tree.Tree{Kind: kind, At: 9, Text: "num", Kids: kids}
		wantRefusal(t, other, "m", api.ErrForm, 9)
		wantRefusal(t, list(1, atom(2, "array"), other), "m", api.ErrForm, 9)
		wantRefusal(t, list(1, atom(2, "fn"), list(3, other), atom(4, "x")), "m", api.ErrForm, 9)
		wantRefusal(t, list(1, atom(2, "fn"), list(3), other), "m", api.ErrForm, 9)
		wantRefusal(t, list(1, atom(2, "fn"), other, atom(4, "num")), "m", api.ErrForm, 1)
		wantRefusal(t, list(1, tree.Tree{Kind: kind, Text: "array"}, atom(4, "num")), "m", api.ErrForm, 1)
		wantRefusal(t, list(1, tree.Tree{Kind: kind, Text: "fn"}, list(3), atom(4, "num")), "m", api.ErrForm, 1)
	}
	wantRefusal(t, tree.Tree{}, "", api.ErrForm, 0)
	wantText(t, tree.Tree{Kind: lex.Atom, Text: "num", Kids: kids}, "m", "num")
	wantText(t, tree.Tree{Kind: lex.Open, Text: "bytes", Kids: kids}, "m", "[num]")
	wantText(t, tree.Tree{Kind: lex.Open, Kids: []tree.Tree{atom(0, "fn"), {Kind: lex.Open, Text: "x", Kids: []tree.Tree{}}, atom(0, "num")}}, "m", "()num")
	wantRefusal(t, atom(-5, "x"), "m", api.ErrForm, -5)
	wantRefusal(t, atom(-5, ""), "m", api.ErrForm, -5)
	wantRefusal(t, atom(1<<40, "m.T "), "m", api.ErrForm, 1<<40)
	wantRefusal(t, atom(1, "m.T\x00"), "m", api.ErrForm, 1)
	wantRefusal(t, atom(1, strings.Repeat("m.T", 1<<16)), "m", api.ErrForm, 1)
}

// readByCalls is P5.2 told once more, by calls within calls.
func readByCalls(x tree.Tree, module string) (string, api.Errno, int) {
	text, count := "", 0
	switch {
	case x.Kind == lex.Atom && bigRule.MatchString(x.Text):
		text = module + "." + x.Text
	case x.Kind == lex.Atom && rightRule.MatchString(x.Text):
		text = x.Text
	case x.Kind == lex.Open && len(x.Kids) == 2 && x.Kids[0].Kind == lex.Atom && x.Kids[0].Text == "array":
		elem, why, at := readByCalls(x.Kids[1], module)
		if why != api.OK {
			return "", why, at
		}
		text = "[" + elem + "]"
	case x.Kind == lex.Open && len(x.Kids) == 3 && x.Kids[0].Kind == lex.Atom && x.Kids[0].Text == "fn" && x.Kids[1].Kind == lex.Open:
		var params []string
		for _, kid := range x.Kids[1].Kids {
			param, why, at := readByCalls(kid, module)
			if why != api.OK {
				return "", why, at
			}
			params = append(params, param)
		}
		result, why, at := readByCalls(x.Kids[2], module)
		if why != api.OK {
			return "", why, at
		}
		text, count = "("+strings.Join(params, ",")+")"+result, len(params)
	default:
		return "", api.ErrForm, x.At
	}
	if count > 6 {
		return "", api.ErrCount, x.At
	}
	if len(text) > 200 {
		return "", api.ErrLong, x.At
	}
	return text, api.OK, 0
}

// someTree makes a tree by chance, most often one of a type.
func someTree(r *rand.Rand, deep int, at *int) tree.Tree {
	*at++
	here := *at
	switch n := r.Intn(40); {
	case n == 0:
		return tree.Tree{Kind: r.Intn(8) - 1, At: here, Text: "num", Kids: []tree.Tree{atom(0, "array"), atom(0, "x")}}
	case n == 1:
		return list(here, atom(0, "fn"), someTree(r, 0, at), atom(0, "x"))
	case n == 2:
		return atom(here, []string{"x", "m.t", "m.T.U", "array", ""}[r.Intn(5)])
	case n < 14 || deep == 0:
		return atom(here, []string{"num", "bytes", "T", "o.U", "Longer_name", "some_module.Some_type"}[r.Intn(6)])
	case n < 24:
		return list(here, atom(0, "array"), someTree(r, deep-1, at))
	}
	params := list(here)
	for range r.Intn(4) * (1 + r.Intn(3)) {
		params.Kids = append(params.Kids, someTree(r, deep-1, at))
	}
	return list(here, atom(0, "fn"), params, someTree(r, deep-1, at))
}

func TestReadAgainstCalls(t *testing.T) {
	r := rand.New(rand.NewSource(3))
	seen := map[api.Errno]int{}
	for i := range 40000 {
		at := 0
		x := someTree(r, 1+i%5, &at)
		want, why, place := readByCalls(x, "m")
		seen[why]++
		if why != api.OK {
			wantRefusal(t, x, "m", why, place)
			continue
		}
		wantText(t, x, "m", want)
		wantAsByRules(t, want)
	}
	for _, why := range []api.Errno{api.OK, api.ErrForm, api.ErrCount, api.ErrLong} {
		if seen[why] < 50 {
			t.Errorf("too few trees are %v: %d", why, seen[why])
		}
	}
}

// R3, R8 and R1: trees of a few tokens, all of them.
func TestReadShortRows(t *testing.T) {
	rows := []string{""}
	for range 7 {
		var longer []string
		for _, row := range rows {
			if x, why, _ := tree.Parse(row); why == api.OK {
				want, why, at := readByCalls(x, "m")
				if got, gotWhy, gotAt := types.Read(x, "m"); got != want || gotWhy != why || gotAt != at {
					t.Errorf("Read(%s): %q, %v at %d, want %q, %v at %d", row, got, gotWhy, gotAt, want, why, at)
				}
			}
			for _, token := range []string{"(", ")", " array", " fn", " T", " x"} {
				longer = append(longer, row+token)
			}
		}
		rows = longer
	}
}

func within(piece, whole string) bool {
	if piece == "" {
		return false
	}
	from, at := uintptr(unsafe.Pointer(unsafe.StringData(whole))), uintptr(unsafe.Pointer(unsafe.StringData(piece)))
	return from <= at && at < from+uintptr(len(whole))
}

// R2: no answer keeps the text that was handed in, nor shares memory with another one's list.
func TestKeepsNothing(t *testing.T) {
	whole := strings.Clone("(module_a.Type_a,[module_b.Type_b])module_c.Type_c")
	array, named := strings.Clone("[module_a.Type_a]"), strings.Clone("module_a.Type_a")
	params, result, _ := types.Parts(whole)
	elem, _ := types.Elem(array)
	module, name, _ := types.Named(named)
	names := types.Names(whole)
	for _, piece := range slices.Concat(params, names, []string{result, elem, module, name, types.Names(named)[0]}) {
		if piece == "" || within(piece, whole) || within(piece, array) || within(piece, named) {
			t.Errorf("%q is a piece of what was handed in", piece)
		}
	}
	for _, text := range []string{"num", "bytes", "a.B", "T"} {
		text = strings.Clone(text)
		if got, _, _ := types.Read(atom(0, text), "m"); within(got, text) {
			t.Errorf("Read(%s) is what was handed in", text)
		}
	}
	for _, list := range [][]string{params, names} {
		for i := range list[:cap(list)] {
			list[:cap(list)][i] = "scribbled"
		}
	}
	wantParts(t, whole, []string{"module_a.Type_a", "[module_b.Type_b]"}, "module_c.Type_c")
	wantNames(t, whole, "module_a.Type_a", "module_b.Type_b", "module_c.Type_c")
}

// R2: neither Func nor Read changes what it is handed, spare room included.
func TestChangesNothing(t *testing.T) {
	room := []string{"num", "m.T", "spare", "spare"}
	if got := types.Func(room[:2], "num"); got != "(num,m.T)num" || !slices.Equal(room, []string{"num", "m.T", "spare", "spare"}) {
		t.Errorf("%q, %q", got, room)
	}
	spare := list(9, atom(9, "spare"))
	params := []tree.Tree{atom(5, "T"), list(6, atom(7, "array"), atom(8, "num")), spare, spare}
	kids := []tree.Tree{atom(1, "fn"), list(2, params[:2]...), atom(3, "o.U"), spare, spare}
	kids[1].Kids = params[:2]
	want := fmt.Sprintf("%+v %+v", kids, params)
	wantText(t, list(0, kids[:3]...), "m", "(m.T,[num])o.U")
	params[1].Kids[1].Text = "x"
	wantRefusal(t, tree.Tree{Kind: lex.Open, Kids: kids[:3]}, "m", api.ErrForm, 8)
	params[1].Kids[1].Text = "num"
	if got := fmt.Sprintf("%+v %+v", kids, params); got != want {
		t.Errorf("changed: %s", got)
	}
}

func FuzzRight(f *testing.F) {
	for _, s := range rights {
		f.Add(s)
	}
	f.Fuzz(wantAsByRules)
}

func FuzzRead(f *testing.F) {
	for _, s := range []string{"num", "(fn (num T) (array o.U))", "(array x)", `("fn" () num)`, "(fn (num num num num num num num) num)"} {
		f.Add(s, "m")
	}
	f.Fuzz(func(t *testing.T, s, module string) {
		x, why, _ := tree.Parse(s)
		if why != api.OK {
			return
		}
		if want, why, at := readByCalls(x, module); why == api.OK {
			wantText(t, x, module, want)
		} else {
			wantRefusal(t, x, module, why, at)
		}
	})
}
