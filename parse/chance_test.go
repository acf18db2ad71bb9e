package parse_test

import (
	"math/rand"
	"strings"
	"testing"

	"hawser/api"
	"hawser/lex"
	"hawser/parse"
	"hawser/tree"
)

// wantAsByCalls: Expr answers of s what the model does.
func wantAsByCalls(t *testing.T, s string) api.Errno {
	t.Helper()
	x, why, _ := tree.Parse(s)
	if why != api.OK {
		return why
	}
	var want api.Expr
	why, at := caught(func() { want = exprByCalls(x, "m") })
	if why == api.OK {
		wantTree(t, x, want)
	} else {
		wantRefusal(t, x, why, at)
	}
	return why
}

// wantModuleAsByCalls: Module answers of s what the model does, and what is right is printed and read again.
func wantModuleAsByCalls(t *testing.T, s string) api.Errno {
	t.Helper()
	var want api.Module
	why, at := caught(func() { want = moduleByCalls(s) })
	if why == api.OK {
		wantModule(t, s, want)
	} else {
		wantRefused(t, s, why, at)
	}
	return why
}

// P6.1: all short rows of tokens.
func TestShortRows(t *testing.T) {
	for _, tokens := range [][]string{{"(", ")", " let", " x", " X"}, {"(", ")", " match", " x", " A"}, {"(", ")", " fn", " x", " num"}, {"(", ")", " array", " T", ` "a"`}, {"(", ")", " call", " 1", " add"}, {"(", ")", " if", " f", " n.C"}} {
		rows := []string{""}
		for range 7 {
			var longer []string
			for _, row := range rows {
				wantAsByCalls(t, row)
				if len(row) < 10 {
					wantAsByCalls(t, "(match x ("+row+"))")
					wantAsByCalls(t, "(fn ("+row+") num x)")
				}
				for _, token := range tokens {
					longer = append(longer, row+token)
				}
			}
			rows = longer
		}
	}
}

// P6.2: all short rows of tokens as a module's items, and within one.
func TestShortRowsOfItems(t *testing.T) {
	rows := []string{""}
	for range 5 {
		var longer []string
		for _, row := range rows {
			for _, head := range []string{"", "(import", "(export", "(type", "(const", "(fun", "(fun f ("} {
				wantModuleAsByCalls(t, "(module m "+head+row+")")
				wantModuleAsByCalls(t, "(module m "+head+row+"))")
				wantModuleAsByCalls(t, "(module m "+head+row+" num 1))")
			}
			for _, token := range []string{"(", ")", " x", " T", " num", ` "a"`} {
				longer = append(longer, row+token)
			}
		}
		rows = longer
	}
}

// chance makes sources by chance.
type chance struct{ *rand.Rand }

func (c chance) of(l ...string) string { return l[c.Intn(len(l))] }

// row is up to most of what f makes, parted.
func (c chance) row(most int, f func() string) string {
	var s strings.Builder
	for range c.Intn(most + 1) {
		s.WriteString(c.of(" ", "  ", "\n", " ;x\n", "\t") + f())
	}
	return s.String()
}

func (c chance) value() string { return c.of("x", "y", "_", "z9", "f", "numb", "aB_c") }

func (c chance) big() string { return c.of("A", "B", "Cc", "T", "U_1") }

func (c chance) path(s string) string { return c.of("", "", "n.", "m.", "add.") + s }

func (c chance) typed(deep int) string {
	switch n := c.Intn(6); {
	case n == 0 && deep > 0:
		return "(array " + c.typed(deep-1) + ")"
	case n == 1 && deep > 0:
		return "(fn (" + c.row(3, func() string { return c.typed(deep - 1) }) + ")" + c.typed(deep-1) + ")"
	case n == 2:
		return c.path(c.big())
	}
	return c.of("num", "bytes", "T", "m.T")
}

func (c chance) params() string {
	return "(" + c.row(3, func() string { return "(" + c.value() + " " + c.typed(1) + ")" }) + ")"
}

func (c chance) arm(deep int) string {
	return "((" + c.path(c.big()) + c.row(4, c.value) + ")" + c.expr(deep) + ")"
}

func (c chance) expr(deep int) string {
	next := func() string { return c.expr(deep - 1) }
	n := c.Intn(14)
	if deep == 0 {
		n = c.Intn(4)
	}
	switch n {
	case 0:
		return c.of("0", "1", "-2", "2i", "-2-3i", "007", "1+0i", "0i")
	case 1:
		return c.of(`""`, `"a"`, `"\n\x00"`, `"\x41\"\\;("`)
	case 2, 3:
		return c.path(c.of(c.value(), c.value(), words[c.Intn(len(words))]))
	case 4:
		return "(let " + c.value() + " " + next() + " " + next() + ")"
	case 5:
		return "(if " + next() + " " + next() + " " + next() + ")"
	case 6:
		return "(array " + c.typed(2) + c.row(4, next) + ")"
	case 7:
		return "(match " + next() + " " + c.arm(deep-1) + c.row(3, func() string { return c.arm(deep - 1) }) + ")"
	case 8:
		return "(fn " + c.params() + c.typed(2) + " " + next() + ")"
	case 9:
		return "(call " + next() + c.row(4, next) + ")"
	case 10:
		return "(" + c.path(c.big()) + c.row(4, next) + ")"
	case 11:
		return "(" + c.path(c.value()) + c.row(5, next) + ")"
	}
	return "(" + c.of("add", "neg", "cat", "cut", "im", "n.add") + c.row(4, next) + ")"
}

func (c chance) item() string {
	switch c.Intn(5) {
	case 0:
		return "(import " + c.value() + c.row(3, func() string { return c.of(c.value(), c.big(), "fun") }) + ")"
	case 1:
		return "(export" + c.row(3, func() string { return c.of(c.value(), c.big(), "let") }) + ")"
	case 2:
		one := func() string {
			return "(" + c.big() + c.row(4, func() string { return c.typed(2) }) + ")"
		}
		return "(type " + c.big() + one() + c.row(4, one) + ")"
	case 3:
		return "(const " + c.value() + " " + c.typed(2) + " " + c.expr(3) + ")"
	}
	return "(fun " + c.value() + c.params() + c.typed(2) + " " + c.expr(3) + ")"
}

func (c chance) module() string { return "(module " + c.of("m", "n", "add") + c.row(5, c.item) + ")" }

// turned takes away, doubles, changes or swaps some tokens of a source.
func (c chance) turned(s string) string {
	tokens, why, _ := lex.Split(s)
	if why != api.OK {
		return s
	}
	var texts []string
	for _, token := range tokens {
		texts = append(texts, [...]string{"", "(", ")", token.Text, lex.Quote(token.Text)}[token.Kind])
	}
	for range 1 + c.Intn(2) {
		i, k := c.Intn(len(texts)), c.Intn(len(texts))
		switch c.Intn(5) {
		case 0:
			texts[i] = c.of("x", "X", "n.x", "n.X", "1", `"a"`, "()", "(f)", "(x num)", "((A) 1)", "num", words[c.Intn(len(words))])
		case 1:
			texts[i], texts[k] = texts[k], texts[i]
		case 2:
			texts[i] = ""
		case 3:
			texts[i] = strings.Repeat(c.of("x", "1", "(f)", "(x num)", "((A) 1)", "num", "(A)")+" ", c.Intn(10)) + texts[i]
		default:
			if texts[i] != "(" && texts[i] != ")" {
				texts[i] += " " + texts[i]
			}
		}
	}
	return strings.Join(texts, " ")
}

// P6.1: expressions by chance, right and turned.
func TestExprByChance(t *testing.T) {
	c := chance{rand.New(rand.NewSource(1))}
	seen := map[api.Errno]int{}
	for i := range 10000 {
		s := c.expr(i % 5)
		if why := wantAsByCalls(t, s); why != api.OK && why != api.ErrLong {
			t.Errorf("%s: %v", s, why)
		}
		seen[wantAsByCalls(t, c.turned(s))]++
	}
	for _, why := range []api.Errno{api.OK, api.ErrForm, api.ErrName, api.ErrCount} {
		if seen[why] < 100 {
			t.Errorf("too few expressions are %v: %d", why, seen[why])
		}
	}
}

// P6.2, P6.3 and P6.4: modules by chance, right and turned.
func TestModuleByChance(t *testing.T) {
	c := chance{rand.New(rand.NewSource(2))}
	seen := map[api.Errno]int{}
	for range 4000 {
		s := c.module()
		if why := wantModuleAsByCalls(t, s); why != api.OK && why != api.ErrLong {
			t.Errorf("%s: %v", s, why)
		}
		seen[wantModuleAsByCalls(t, c.turned(s))]++
	}
	for _, why := range []api.Errno{api.OK, api.ErrForm, api.ErrName, api.ErrCount, api.ErrEnd, api.ErrTail} {
		if seen[why] < 100 {
			t.Errorf("too few modules are %v: %d", why, seen[why])
		}
	}
}

func FuzzModule(f *testing.F) {
	c := chance{rand.New(rand.NewSource(3))}
	for range 100 {
		f.Add(c.module())
	}
	f.Add(wholeModule)
	f.Fuzz(func(t *testing.T, s string) { wantModuleAsByCalls(t, s) })
}

func FuzzExpr(f *testing.F) {
	c := chance{rand.New(rand.NewSource(4))}
	for i := range 100 {
		f.Add(c.expr(i%4), "m")
	}
	f.Fuzz(func(t *testing.T, s, module string) {
		x, why, _ := tree.Parse(s)
		if why != api.OK {
			return
		}
		var want api.Expr
		why, at := caught(func() { want = exprByCalls(x, module) })
		if got, gotWhy, gotAt := parse.Expr(x, module); told(got) != told(want) || gotWhy != why || gotAt != at {
			t.Errorf("Expr(%s, %q): %s, %v at %d, want %s, %v at %d", s, module, told(got), gotWhy, gotAt, told(want), why, at)
		}
	})
}
